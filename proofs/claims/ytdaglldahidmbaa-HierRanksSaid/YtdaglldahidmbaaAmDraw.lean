/-
  Package hier: each of its laws for every argument; no conditions. The last text states which.
-/
import Derived.Test.YtdaglldahidmbaaAmLex
set_option linter.unusedVariables false
set_option linter.unusedSimpArgs false
noncomputable section
namespace Go.Am
open Go
variable{ro:Option Nat}
variable{P:Program}{GL:List Nat}{B:Bd}{callF:cK}{ops:Array Oper}{before:List Nat}{h0:List (Nat×Nat)}{S:TypeId->Addr->Prop}{st:Nat->St}{ld:Nat->Nat}{N:Nat}
structure rJ(P:Program)(GL:List Nat)(callF:cK)(ops:Array Oper)(before:List Nat)(h0:List (Nat×Nat))(S:TypeId->Addr->Prop)(st:Nat->St)(ld:Nat->Nat)(N:Nat):Prop where
 steps: ∀j,j<N->Fo P GL callF ops before h0 S st ld j
 hide0:(st 0).M.hide=h0
namespace rJ
theorem hide(R:rJ P GL callF ops before h0 S st ld N): ∀j,j<=N->(st j).M.hide=h0
 |0,_=>R.hide0
 |j+1,h=>(R.steps j h).hide
theorem abs(hA:bO callF)(R:rJ P GL callF ops before h0 S st ld N)(j:Nat)(hj:j<N): ∃L,kX (st j).M (st (j+1)).M L/\(ld j<=1->L= [])/\(ld j=0->(st (j+1)).M=(st j).M):=by
 obtain⟨hh,o,deps,ho,hb,⟨h1,h2,h3⟩|⟨h1,r,M',H,h2,h3,h4,h5,h6,h7⟩|⟨h1,t,x,a,v,H,k1,k2,k3,h2,k4,k5⟩⟩:=R.steps j hj
 ·have:=eV h2
  exact⟨[],by rw[this];exact kX.refl _,fun _=>rfl,fun _=>this⟩
 ·obtain⟨q1,L,q2,q3⟩:=kZ hA h2
  have hM:(st (j+1)).M={M' with hide:=h0}:=eV h3
  refine⟨L,by rw[hM];exact⟨(R.hide j (Nat.le_of_lt hj)).symm,q2.next,q2.log,q2.keep,q2.logb⟩,q3,fun h=> ?_⟩
  rw[hM,q1 h]
  have:=R.hide j (Nat.le_of_lt hj)
  cases hst:(st j).M with
  |mk a b c d=>rw[hst] at this;simp only at this;rw[this]
 ·have:=eV h2
  exact⟨[],by rw[this];exact kX.refl _,fun _=>rfl,fun _=>this⟩
theorem mono(hA:bO callF)(R:rJ P GL callF ops before h0 S st ld N)(i:Nat): ∀j,i<=j->j<=N->(st i).M.next<=(st j).M.next:=by
 intro j
 induction j with
 |zero=>intro h _;have:i=0:=by omega
        subst this;exact Nat.le_refl _
 |succ j ih=>
  intro h1 h2
  by_cases h:i=j+1
  ·subst h;exact Nat.le_refl _
  ·obtain⟨L,hL,_⟩:=R.abs hA j h2
   exact Nat.le_trans (ih (by omega) (by omega)) hL.next
theorem keep(hA:bO callF)(R:rJ P GL callF ops before h0 S st ld N)(i:Nat): ∀j,i<=j->j<=N->(∀m,i<=m->m<j->ld m<=1)-> ∀id,id<(st i).M.next->(st j).M.blks.get id=(st i).M.blks.get id:=by
 intro j
 induction j with
 |zero=>intro h _ _ id _;have:i=0:=by omega
        subst this;rfl
 |succ j ih=>
  intro h1 h2 h3 id hid
  by_cases h:i=j+1
  ·subst h;rfl
  ·obtain⟨L,hL,hq,_⟩:=R.abs hA j h2
   have hnil:=hq (h3 j (by omega) (by omega))
   subst hnil
   rw[hL.keep id (Nat.lt_of_lt_of_le hid (R.mono hA i j (by omega) (by omega))) (by simp)]
   exact ih (by omega) (by omega) (fun m a b=>h3 m a (by omega)) id hid
theorem pure(hA:bO callF)(R:rJ P GL callF ops before h0 S st ld N)(i:Nat): ∀j,i<=j->j<=N->(∀m,i<=m->m<j->ld m=0)->(st j).M=(st i).M:=by
 intro j
 induction j with
 |zero=>intro h _ _;have:i=0:=by omega
        subst this;rfl
 |succ j ih=>
  intro h1 h2 h3
  by_cases h:i=j+1
  ·subst h;rfl
  ·obtain⟨L,_,_,hq⟩:=R.abs hA j h2
   rw[hq (h3 j (by omega) (by omega))]
   exact ih (by omega) (by omega) fun m a b=>h3 m a (by omega)
theorem log(hA:bO callF)(R:rJ P GL callF ops before h0 S st ld N)(i:Nat): ∀j,i<=j->j<=N-> ∃L,(st j).M.log=L++(st i).M.log/\ ∀t∈L,t<(st j).M.next:=by
 intro j
 induction j with
 |zero=>intro h _;have:i=0:=by omega
        subst this;exact⟨[],rfl,fun t ht=>by cases ht⟩
 |succ j ih=>
  intro h1 h2
  by_cases h:i=j+1
  ·subst h;exact⟨[],rfl,fun t ht=>by cases ht⟩
  ·obtain⟨L,hL,_⟩:=R.abs hA j h2
   obtain⟨L',hL',hb⟩:=ih (by omega) (by omega)
   exact⟨L++L',by rw[hL.log,hL',List.append_assoc],fun t ht=>by
    rcases List.mem_append.1 ht with ht|ht
    ·exact hL.logb t ht
    ·exact Nat.lt_of_lt_of_le (hb t ht) hL.next⟩
theorem owner(R:rJ P GL callF ops before h0 S st ld N){id:Nat}: ∀i,i<=N->id<(st i).M.next->id<(st 0).M.next\/ ∃j,j<i/\(st j).M.next<=id/\id<(st (j+1)).M.next
 |0,_,h=> .inl h
 |i+1,hi,h=>by
  by_cases hlt:id<(st i).M.next
  ·rcases R.owner i (by omega) hlt with h|⟨j,h1,h2⟩
   ·exact .inl h
   ·exact .inr ⟨j,by omega,h2⟩
  ·exact .inr ⟨i,by omega,by omega,h⟩
theorem ranges(hA:bO callF)(R:rJ P GL callF ops before h0 S st ld N){id i j:Nat}(hi:i<N)(hj:j<N)(h1:(st i).M.next<=id)(h2:id<(st (i+1)).M.next)(h3:(st j).M.next<=id)(h4:id<(st (j+1)).M.next):i=j:=by
 rcases Nat.lt_trichotomy i j with h|h|h
 ·have:=R.mono hA (i+1) j (by omega) (by omega);omega
 ·exact h
 ·have:=R.mono hA (j+1) i (by omega) (by omega);omega
theorem quiet(hA:bO callF)(R:rJ P GL callF ops before h0 S st ld N){id j:Nat}(hj:j<N)(h1:(st j).M.next<=id)(h2:id<(st (j+1)).M.next):ld j≠0:=fun h=>by
 obtain⟨_,_,_,hq⟩:=R.abs hA j hj
 rw[hq h] at h2;omega
end rJ
theorem gW(A C:List (Nat×Nat))(id:Nat):aZ (A++C) id=(aZ A id||aZ C id):=by
 induction A with
 |nil=>simp [aZ]
 |cons x A ih=>obtain⟨a,b⟩:=x;simp [aZ,ih,Bool.or_assoc]
theorem Bh{f:Nat->Nat×Nat}{id:Nat}: ∀{l:List Nat},aZ (l.map f) id=true↔ ∃j∈l,(f j).1<=id/\id<(f j).2
 | []=>by simp [aZ]
 |x::l=>by
  show(Nat.ble (f x).1 id&&Nat.blt id (f x).2||aZ (l.map f) id)=true↔_
  rw[Bool.or_eq_true,Bh (l:=l),Bool.and_eq_true]
  simp only [Nat.blt,Nat.ble_eq]
  constructor
  ·rintro(h|⟨j,h1,h2⟩)
   ·exact⟨x,by simp,h.1,h.2⟩
   ·exact⟨j,by simp [h1],h2⟩
  ·rintro⟨j,h1,h2,h3⟩
   rcases List.mem_cons.1 h1 with rfl|h1
   ·exact .inl ⟨h2,h3⟩
   ·exact .inr ⟨j,h1,h2,h3⟩
def HS(st:Nat->St)(ld:Nat->Nat)(m:Nat)(listed:Array Bool):List (Nat×Nat):=
 ((List.range m).filter fun j=> !(listed.getD j false)&& !(Nat.beq (ld j) 0)).map fun j=>((st j).M.next,(st (j+1)).M.next)
theorem Ej{m:Nat}{listed:Array Bool}{id:Nat}:aZ (HS st ld m listed) id=true↔ ∃j,j<m/\listed.getD j false=false/\ld j≠0/\(st j).M.next<=id/\id<(st (j+1)).M.next:=by
 unfold HS
 rw[Bh]
 simp only [List.mem_filter,List.mem_range,Bool.and_eq_true,Bool.not_eq_true']
 constructor
 ·rintro⟨j,⟨h1,h2,h3⟩,h4,h5⟩
  exact⟨j,h1,h2,fun x=>by simp [x] at h3,h4,h5⟩
 ·rintro⟨j,h1,h2,h3,h4,h5⟩
  refine⟨j,⟨h1,h2,?_⟩,h4,h5⟩
  cases hb:Nat.beq (ld j) 0<;>first|rfl|exact absurd (Nat.eq_of_beq_eq_true hb) h3
def VS(st:Nat->St)(ld:Nat->Nat)(h0:List (Nat×Nat))(m:Nat)(listed:Array Bool):aA:={(st m).M with hide:=HS st ld m listed++h0}
theorem fL{m:Nat}{listed:Array Bool}{id:Nat}{b:aW}:(VS st ld h0 m listed).getA id=some b↔id<(st m).M.next/\(¬ ∃j,j<m/\listed.getD j false=false/\ld j≠0/\(st j).M.next<=id/\id<(st (j+1)).M.next)/\aZ h0 id=false/\(st m).M.blks.get id=some b:=by
 rw[bK]
 simp only [VS,gW,Bool.or_eq_false_iff]
 rw[<-Ej (st:=st) (ld:=ld) (m:=m) (listed:=listed)]
 simp only [Bool.not_eq_true]
 constructor
 ·rintro⟨a,⟨b,c⟩,d⟩;exact⟨a,b,c,d⟩
 ·rintro⟨a,b,c,d⟩;exact⟨a,⟨b,c⟩,d⟩
theorem gI.sub{φ:dC}{M1 M2:aA}{w:World}(h:gI P GL B φ M1 w)(hs: ∀id b,M2.getA id=some b->M1.getA id=some b)(hg: ∀g∈GL,g<M2.next):gI P GL B φ M2 w:=
 ⟨fun id b hb=>h.blkA id b (hs id b hb),fun a b c d e f g h1 h2=>h.sepA a b c d e f g (hs a c h1) (hs b d h2),fun g hgl=>⟨hg g hgl,(h.glob g hgl).2⟩,h.size,fun _ _ hb=>(bK.1 hb).1,h.rnd⟩
def zZ(ops:Array Oper)(ld:Nat->Nat)(j:Nat):Prop:=lJ ops=true/\Cc ops zM j=true/\ld j=1
theorem Gr{p:Oper->Bool}{j:Nat}{o:Oper}(ho:ops[j]?=some o):Cc ops p j=p o:=by simp [Cc,ho]
def Hg(P:Program)(GL:List Nat)(callF:cK)(o:Oper)(T:Tr Value)(M:aA)(k:Nat)(r:AR)(M':aA):Prop:=
 k=1/\ ∃b,M'=M.alloc b/\ ∀M2:aA,M2.next=M.next->jG P GL callF o T M2=some (1,r,M2.alloc b)
theorem rU{α:Type}{c:Bool}{x:Option α}{y:α}(h:(bif c then x else none)=some y):c=true/\x=some y:=by
 cases c<;>simp_all
theorem uM{α:Type}{c:Bool}{x y z:α}(h:(bif c then x else y)=z):(c=true/\x=z)\/(c=false/\y=z):=by
 cases c<;>simp_all
theorem Wn{o:Oper}{T:Tr Value}{M M':aA}{k:Nat}{r:AR}(hm:zM o=true)(h:jG P GL callF o T M=some (k,r,M')):Hg P GL callF o T M k r M':=by
 obtain⟨dst,op,type,pos,after,guard⟩:=o
 cases op<;>simp only [zM,Bool.false_eq_true] at hm
 case alloc elem=>
  simp only [jG,eT,eU,dL] at h
  unfold Hg
  simp only [jG,eT,eU,dL]
  split at h
  ·cases h
  ·split at h<;>(try cases h;done)
   split at h<;>(try cases h;done)
   rename_i i z hi hz v hv
   cases hq:(flat v&&v.cells.toList.all isCell)<;>simp only [hq,cond_true,cond_false,made,mX] at h
   ·cases h
   ·simp only [Option.some.injEq,Prod.mk.injEq] at h
    obtain⟨rfl,rfl,rfl⟩:=h
    refine⟨rfl,_,rfl,fun M2 h2=> ?_⟩
    simp only [hv,hq,cond_true,made,mX,h2]
 case box elem x=>
  simp only [jG,eT,eU,fE] at h
  unfold Hg
  simp only [jG,eT,eU,fE]
  split at h
  ·cases h
  ·split at h<;>(try cases h;done)
   rename_i v hv
   split at h<;>(try cases h;done)
   rename_i z hz
   cases hq:(v.cells.toList.all isCell)<;>simp only [hq,cond_true,cond_false,made,mX] at h
   ·cases h
   ·simp only [Option.some.injEq,Prod.mk.injEq] at h
    obtain⟨rfl,rfl,rfl⟩:=h
    refine⟨rfl,_,rfl,fun M2 h2=> ?_⟩
    simp only [hq,cond_true,made,mX,h2]
 case makeSlice t l c=>
  simp only [jG,eT,eU,cB] at h
  unfold Hg
  simp only [jG,eT,eU,cB]
  split at h
  ·cases h
  ·split at h<;>(try cases h;done)
   rename_i lv cv hl hc
   split at h<;>(try cases h;done)
   split at h<;>(try cases h;done)
   rename_i e he
   split at h<;>(try cases h;done)
   rename_i z hz
   obtain⟨hq,h⟩:=rU h
   simp only [made,mX,Option.some.injEq,Prod.mk.injEq] at h
   obtain⟨rfl,rfl,rfl⟩:=h
   refine⟨rfl,_,rfl,fun M2 h2=> ?_⟩
   simp only [hz,hq,cond_true,made,mX,h2]
 case buildSlice t len parts=>
  simp only [jG,eT,eU,bE] at h
  unfold Hg
  simp only [jG,eT,eU,bE]
  split at h
  ·cases h
  ·split at h<;>(try cases h;done)
   rename_i ps hps
   split at h<;>(try cases h;done)
   rename_i el hu
   split at h<;>(try cases h;done)
   rename_i e he
   split at h<;>(try cases h;done)
   rename_i z hz
   cases hq:(flat z&&z.cells.toList.all isCell&&Nat.beq z.cells.toList.length e.size&& !Nat.beq e.size 0&&Nat.ble (len*e.size) (2^24))<;>simp only [hq,cond_true,cond_false] at h
   ·cases h
   ·split at h<;>(try cases h;done)
    rename_i cs hcs
    cases a0:(cs.all isCell)<;>simp only [a0,cond_true,cond_false,made,mX] at h
    ·cases h
    ·simp only [Option.some.injEq,Prod.mk.injEq] at h
     obtain⟨rfl,rfl,rfl⟩:=h
     refine⟨rfl,_,rfl,fun M2 h2=> ?_⟩
     simp only [hz,hq,cond_true,hcs,a0,made,mX,h2]
theorem xZ{o:Oper}{T:Tr Value}{M M':aA}{t:TypeId}{x y:Operand}{a:Addr}{v:Value}(h1:o.op= .store t x y)(h2:ev GL T x=some (.pointer (some a)))(h3:ev GL T y=some v)(h:eC P t a v M=some M'):
  jG P GL callF o T M=some (2,.skip,M'):=by
 obtain⟨dst,op,type,pos,after,guard⟩:=o
 simp only at h1
 subst h1
 simp only [jG,eT,eU,h2,h3,h]
theorem jK{t:TypeId}{a:Addr}{v:Value}{M M':aA}(hs:eC P t a v M=some M'):
  ∃b b',M.get a.block=some b/\M'=M.put a.block (some b')/\ ∀M2:aA,M2.get a.block=some b->eC P t a v M2=some (M2.put a.block (some b')):=by
 unfold eC at hs
 split at hs<;>try (simp at hs;done)
 rename_i b i hgb hi
 cases hq:(Nat.beq v.cells.toList.length i.size&&v.cells.toList.all isCell&&Nat.ble b.wf a.off&&Nat.ble (a.off+v.cells.toList.length) b.cs.length)<;>simp only [hq,cond_true,cond_false] at hs
 ·simp at hs
 ·simp at hs;subst hs
  exact⟨b,_,hgb,rfl,fun M2 h2=>by
   unfold eC
   simp only [h2,hi,hq,cond_true]⟩
theorem Za{M:aA}{b:Nat}(h1:b<M.next)(h2:aZ M.hide b=false):Zh M b=true:=by
 have:Nat.blt b M.next=true:=Nat.ble_eq_true_of_le h1
 unfold Zh
 rw[this,h2]
 rfl
theorem kI{M:aA}{b:Nat}{c:aW}(h1:b<M.next)(h2:aZ M.hide b=false)(id:Nat):(M.put b (some c)).getA id=if id=b then some c else M.getA id:=by
 rw[iK,Za h1 h2]
 simp
theorem Hb{o:Oper}{T:Tr Value}{M M':aA}{k:Nat}{r:AR}(hc:fP o=true)(h:jG P GL callF o T M=some (k,r,M')):
  ∃t x y a v,o.op= .store t x y/\ev GL T x=some (.pointer (some a))/\ev GL T y=some v/\eC P t a v M=some M'/\k=2/\r= .skip:=by
 obtain⟨dst,op,type,pos,after,guard⟩:=o
 cases op<;>simp only [fP,Bool.false_eq_true] at hc
 simp only [jG,eT,eU] at h
 split at h
 ·cases h
 ·split at h<;>(try cases h;done)
  rename_i a v hx hy
  split at h<;>(try cases h;done)
  rename_i M1 hs
  simp only [Option.some.injEq,Prod.mk.injEq] at h
  obtain⟨rfl,rfl,rfl⟩:=h
  exact⟨_,_,_,a,v,rfl,hx,hy,hs,rfl,rfl⟩
def Oq(M M':aA):Prop:=M'=M\/(∃b,M'=M.alloc b)\/(∃id b c,M.getA id=some b/\M'=M.put id c)\/(∃id b c d,M.getA id=some b/\M'=(M.put id c).alloc d)
theorem Oq.sees{M M':aA}(h:Oq M M'):(∀L,M'.log=L++M.log-> ∀t∈L,∃b,M.getA t=some b)/\(∀id b,id<M.next->M'.getA id=some b-> ∃b0,M.getA id=some b0):=by
 have hput: ∀id (b:aW) (c:Option aW),M.getA id=some b-> ∀j b2,(M.put id c).getA j=some b2-> ∃b0,M.getA j=some b0:=fun id b c hb j b2 hj=>by
  rw[iK] at hj
  by_cases h:j=id
  ·subst h;exact⟨b,hb⟩
  ·rw[if_neg h] at hj;exact⟨b2,hj⟩
 rcases h with rfl|⟨b,rfl⟩|⟨id,b,c,hb,rfl⟩|⟨id,b,c,d,hb,rfl⟩
 ·refine⟨fun L hL t ht=> ?_,fun id b _ hb=>⟨b,hb⟩⟩
  have:L= []:=List.append_cancel_right (bs:=M'.log) (by rw[<-hL];rfl)
  rw[this] at ht;cases ht
 ·refine⟨fun L hL t ht=> ?_,fun id b0 hid hb=> ?_⟩
  ·have:L= []:=List.append_cancel_right (bs:=M.log) (by rw[<-hL];rfl)
   rw[this] at ht;cases ht
  ·rw[iV,if_neg (by omega)] at hb;exact⟨b0,hb⟩
 ·refine⟨fun L hL t ht=> ?_,fun j b0 _ hj=>hput id b c hb j b0 hj⟩
  have:L= [id]:=List.append_cancel_right (bs:=M.log) (by rw[<-hL];rfl)
  rw[this] at ht
  simp at ht;subst ht;exact⟨b,hb⟩
 ·refine⟨fun L hL t ht=> ?_,fun j b0 a0 hj=> ?_⟩
  ·have:L= [id]:=List.append_cancel_right (bs:=M.log) (by rw[<-hL];rfl)
   rw[this] at ht
   simp at ht;subst ht;exact⟨b,hb⟩
  ·rw[iV,if_neg (by show¬j=M.next;omega)] at hj
   exact hput id b c hb j b0 hj
theorem Fp{ts:List TypeId}{s x:Value}{M M':aA}{k:Nat}{r:AR}(h:dJ P ts s x M=some (k,r,M')):Oq M M':=by
 unfold dJ at h
 split at h<;>(try cases h;done)
 split at h<;>(try cases h;done)
 split at h<;>(try cases h;done)
 split at h<;>(try cases h;done)
 ·rcases uM h with⟨_,h⟩|⟨_,h⟩
  ·cases h
  ·rcases uM h with⟨_,h⟩|⟨_,h⟩
   ·cases h;exact .inl rfl
   ·cases h;exact .inr (.inl ⟨_,rfl⟩)
 ·split at h<;>(try cases h;done)
  rename_i hg
  split at h<;>(try cases h;done)
  rcases uM h with⟨_,h⟩|⟨_,h⟩
  ·cases h
  rcases uM h with⟨_,h⟩|⟨_,h⟩
  ·cases h;exact .inl rfl
  rcases uM h with⟨_,h⟩|⟨_,h⟩
  ·rcases uM h with⟨_,h⟩|⟨_,h⟩
   ·cases h;exact .inr (.inl ⟨_,rfl⟩)
   ·obtain⟨_,h⟩:=rU h
    cases h;exact .inr (.inr (.inl ⟨_,_,_,fX hg,rfl⟩))
  ·obtain⟨_,h⟩:=rU h
   rcases uM h with⟨_,h⟩|⟨_,h⟩
   ·cases h;exact .inr (.inr (.inr ⟨_,_,_,_,fX hg,rfl⟩))
   ·obtain⟨_,h⟩:=rU h
    cases h;exact .inr (.inr (.inr ⟨_,_,_,_,fX hg,rfl⟩))
theorem Iw{o:Oper}{T:Tr Value}{M M':aA}{k:Nat}{r:AR}(hm:sE o=true)(h:jG P GL callF o T M=some (k,r,M')):Oq M M':=by
 obtain⟨dst,op,type,pos,after,guard⟩:=o
 cases op<;>simp only [sE,Bool.false_eq_true] at hm
 case store t x y=>
  obtain⟨t,x,y,a,v,_,_,_,hs,_,_⟩:=Hb (o:={dst:=dst,op:= .store t x y,type:=type,pos:=pos,after:=after,guard:=guard}) rfl h
  obtain⟨b,b',h1,h2,_⟩:=jK hs
  exact .inr (.inr (.inl ⟨_,b,_,fX h1,h2⟩))
 case call c=>
  obtain⟨callee,args,tys⟩:=c
  simp only at hm
  split at hm<;>(try cases hm;done)
  simp only [jG,eT,eU] at h
  split at h
  ·cases h
  ·split at h<;>(try cases h;done)
   exact Fp h
def XV(st:Nat->St)(ld:Nat->Nat)(h0:List (Nat×Nat))(N m:Nat)(listed:Array Bool)(id:Nat)(b:aW):Prop:=
 ∃j,m<=j/\j<N/\listed.getD j false=true/\ld j≠0/\(st j).M.next<=id/\id<(st (j+1)).M.next/\aZ h0 id=false/\(st (j+1)).M.blks.get id=some b
def VV(st:Nat->St)(ld:Nat->Nat)(h0:List (Nat×Nat))(N m:Nat)(listed:Array Bool)(id:Nat)(b:aW):Prop:=(VS st ld h0 m listed).getA id=some b\/XV st ld h0 N m listed id b
def In(st:Nat->St)(i id:Nat):Prop:=(st i).M.next<=id/\id<(st (i+1)).M.next
structure fY(P:Program)(GL:List Nat)(B:Bd)(ops:Array Oper)(h0:List (Nat×Nat))(st:Nat->St)(ld:Nat->Nat)(N:Nat)(listed:Array Bool)(φ:dC)(w:World)(m:Nat):Prop where
 le:m<=N
 all: ∀j,j<N->listed.getD j false=true->ld j≠0->j<m\/zZ ops ld j
 loud: ∀j,j<m->listed.getD j false=false->ld j<=1
 blk: ∀id b,VV st ld h0 N m listed id b-> ∃e,φ id=some e/\oP P B φ w e b
 sep: ∀id1 id2 b1 b2 e1 e2,id1≠id2->VV st ld h0 N m listed id1 b1->VV st ld h0 N m listed id2 b2->(b1.app=true\/b1.wf<b1.cs.length)->φ id1=some e1->φ id2=some e2->nN e1 b1 e2 b2
 xsep: ∀id1 id2 b1 b2 e1 e2,id1≠id2->XV st ld h0 N m listed id1 b1->VV st ld h0 N m listed id2 b2->φ id1=some e1->φ id2=some e2->e1.block≠e2.block
 glob: ∀g∈GL,∃e,φ g=some e/\e.block=g/\e.base=0
 size: ∀k,w.heap.size<=k->B.ok k
 rnd: ∀x∈B.rs,rM φ w x
theorem fY.sub{listed:Array Bool}{φ:dC}{w:World}{m:Nat}(V:fY P GL B ops h0 st ld N listed φ w m){M2:aA}(hs: ∀id b,M2.getA id=some b->VV st ld h0 N m listed id b)(hg: ∀g∈GL,g<M2.next):gI P GL B φ M2 w:=
 ⟨fun id b hb=>V.blk id b (hs id b hb),fun a b c d e f g h1 h2=>V.sep a b c d e f g (hs a c h1) (hs b d h2),fun g hgl=>⟨hg g hgl,V.glob g hgl⟩,V.size,fun _ _ hb=>(bK.1 hb).1,V.rnd⟩
section mem
variable{listed:Array Bool}{φ φ':dC}{w w':World}{m i:Nat}
theorem hZ{listed:Array Bool}{i j:Nat}(hi:i<listed.size):(listed.setIfInBounds i true).getD j false=(decide (j=i)||listed.getD j false):=by
 by_cases h:i=j
 ·subst h;simp [hi]
 ·rw[getD_set_ne false h]
  have: ¬j=i:=fun x=>h x.symm
  simp [this]
theorem Wl(V:fY P GL B ops h0 st ld N listed φ w m)(hi:i<N){o:Oper}(ho:ops[i]?=some o)(hnm: ¬zZ ops ld i){deps:Nat}(hdeps: ∀j,deps.testBit j=true->listed.getD j false=true)
  (h4: ∀k,k<i->ld k≠0->ld i≠0->deps.testBit k=true\/(ld k=1/\ld i=1)\/vH ops o ld k i) (hld:ld i≠0): ∀k,m<=k->k<i->ld k<=1:=fun k a b=>by
 rcases Nat.lt_or_ge 1 (ld k) with h|h
 ·rcases h4 k b (by omega) hld with h5|h5|⟨h5,h6|h6⟩
  ·rcases V.all k (by omega) (hdeps k h5) (by omega) with h7|h7
   ·omega
   ·have:=h7.2.2;omega
  ·omega
  ·exact absurd ⟨h5,by rw[Gr ho];exact h6.1,h6.2.1⟩ hnm
  ·have:=h6.2.1;omega
 ·exact h
theorem Wm(R:rJ P GL callF ops before h0 S st ld N)(V:fY P GL B ops h0 st ld N listed φ w m)(hnm: ¬zZ ops ld i)(hun:listed.getD i false=false)
  (hdown: ∀j,j<N->listed.getD j false=true-> ∀d,before[j]?=some d-> ∀k,d.testBit k=true->listed.getD k false=true) (hld:ld i≠0): ∀k,i<k->k<m->ld k<=1:=fun k a b=>by
 rcases Nat.lt_or_ge 1 (ld k) with h|h
 ·have hkN:k<N:=Nat.lt_of_lt_of_le b V.le
  cases hk:listed.getD k false
  ·have:=V.loud k b hk;omega
  ·obtain⟨_,o,d,_,hb,hcase⟩:=R.steps k hkN
   rcases hcase with⟨_,_,hz⟩|⟨_,r,M',H',_,_,_,_,_,h7⟩|⟨_,_,_,_,_,_,_,_,_,_,hz,_⟩
   ·omega
   ·rcases h7 i a hld (by omega) with h8|h8|⟨h8,h9|h9⟩
    ·have:=hdown k hkN hk d hb i h8
     rw[hun] at this;cases this
    ·omega
    ·have:=h9.2.1;omega
    ·exact absurd ⟨h8,h9.2.2,h9.2.1⟩ hnm
   ·omega
 ·exact h
theorem Ol{deps:Nat}(hdeps: ∀j,deps.testBit j=true->listed.getD j false=true)
  {H:List (Nat×Nat)} (h1: ∀k,k<i->ld k≠0->deps.testBit k=false-> ∀id,(st k).M.next<=id->id<(st (k+1)).M.next->aZ H id=true):
  ∀id b,({(st i).M with hide:=H++h0}:aA).getA id=some b->(VS st ld h0 i listed).getA id=some b:=fun id b hb=>by
 obtain⟨a1,a2,a3⟩:=bK.1 hb
 simp only [gW,Bool.or_eq_false_iff] at a1 a2 a3
 refine fL.2 ⟨a1,?_,a2.2,a3⟩
 rintro⟨j,c1,c2,c3,c4,c5⟩
 cases hb:deps.testBit j
 ·have:=h1 j c1 c3 hb id c4 c5
  rw[a2.1] at this;cases this
 ·rw[hdeps j hb] at c2;cases c2
theorem Ot(hA:bO callF)(R:rJ P GL callF ops before h0 S st ld N)(V:fY P GL B ops h0 st ld N listed φ w m)(hi:i<=N)
  (q1: ∀k,m<=k->k<i->ld k<=1) (q2: ∀k,i<=k->k<m->ld k<=1):
  ∀id b,(VS st ld h0 i listed).getA id=some b->VV st ld h0 N m listed id b:=fun id b hb=>by
 obtain⟨hid,a2,a3,hbl⟩:=fL.1 hb
 have hle:=V.le
 have hcont:id<(st m).M.next->(st m).M.blks.get id=some b:=fun hm=>by
  rcases Nat.lt_or_ge i m with h|h
  ·rw[R.keep hA i m (by omega) hle (fun k e1 e2=>q2 k e1 e2) id hid];exact hbl
  ·rw[<-R.keep hA m i h hi q1 id hm];exact hbl
 have old:id<(st m).M.next->(id<(st 0).M.next\/ ∃j,j<m/\listed.getD j false=true/\(st j).M.next<=id/\id<(st (j+1)).M.next)->VV st ld h0 N m listed id b:=fun hm hD=>by
  refine .inl (fL.2 ⟨hm,?_,a3,hcont hm⟩)
  rintro⟨j',c1,c2,c3,c4,c5⟩
  rcases hD with h|⟨j,b1,b2,b3,b4⟩
  ·have:=R.mono hA 0 j' (by omega) (by omega);omega
  ·have:=R.ranges hA (by omega) (by omega) c4 c5 b3 b4
   subst this
   rw[c2] at b2;cases b2
 rcases R.owner i hi hid with h|⟨j,b1,b2,b3⟩
 ·exact old (Nat.lt_of_lt_of_le h (R.mono hA 0 m (by omega) hle)) (.inl h)
 ·have hne:=R.quiet hA (by omega) b2 b3
  have hD:listed.getD j false=true:=by
   cases hd:listed.getD j false
   ·exact absurd ⟨j,b1,hd,hne,b2,b3⟩ a2
   ·rfl
  rcases Nat.lt_or_ge j m with hjm|hjm
  ·exact old (Nat.lt_of_lt_of_le b3 (R.mono hA (j+1) m (by omega) hle)) (.inr ⟨j,hjm,hD,b2,b3⟩)
  ·refine .inr ⟨j,hjm,by omega,hD,hne,b2,b3,a3,?_⟩
   rw[<-R.keep hA (j+1) i (by omega) hi (fun k e1 e2=>q1 k (by omega) e2) id b3];exact hbl
theorem Es(hun: ∀j,listed.getD j false=false)(hR:gI P GL B φ (VS st ld h0 0 listed) w):fY P GL B ops h0 st ld N listed φ w 0:=by
 have hv: ∀id b,VV st ld h0 N 0 listed id b->(VS st ld h0 0 listed).getA id=some b:=fun id b h=>by
  rcases h with h|⟨j,_,_,h,_⟩
  ·exact h
  ·rw[hun] at h;cases h
 exact⟨Nat.zero_le _,fun j _ hD=>(by rw[hun] at hD;cases hD),fun j hj=>absurd hj (Nat.not_lt_zero _),fun id b hb=>hR.blkA id b (hv id b hb),fun a b c d e f g h1 h2=>hR.sepA a b c d e f g (hv _ _ h1) (hv _ _ h2),
  fun a b c d e f g h1 h2=>(by obtain⟨j,_,_,h,_⟩:=h1;rw[hun] at h;cases h),fun g hg=>(hR.glob g hg).2,hR.size,hR.rnd⟩
theorem Lc(V:fY P GL B ops h0 st ld N listed φ w m){listed':Array Bool}{m':Nat}(hle':φ.le φ'){Mx:aA}(hrel:gI P GL B φ' Mx w')
  (hext: ∀id,¬In st i id->φ' id=φ id) (hnew: ∀id e,In st i id->φ' id=some e->w.heap.size<=e.block) (hheap: ∀k,k<w.heap.size->w'.heap[k]?=w.heap[k]?)
  (le:m'<=N) (all: ∀j,j<N->listed'.getD j false=true->ld j≠0->j<m'\/zZ ops ld j) (loud: ∀j,j<m'->listed'.getD j false=false->ld j<=1)
  (cls: ∀id b,VV st ld h0 N m' listed' id b->(Mx.getA id=some b/\In st i id)\/(VV st ld h0 N m listed id b/\ ¬In st i id))
  (xcls: ∀id b,XV st ld h0 N m' listed' id b->(In st i id/\(st (i+1)).M.next<=(st i).M.next+1)\/(XV st ld h0 N m listed id b/\ ¬In st i id)):
  fY P GL B ops h0 st ld N listed' φ' w' m':=by
 have oldblk: ∀id b,VV st ld h0 N m listed id b-> ¬In st i id-> ∀e,φ' id=some e->φ id=some e/\e.block<w.heap.size:=fun id b hb hn e he=>by
  rw[hext id hn] at he
  obtain⟨e',he',hr⟩:=V.blk id b hb
  rw[he] at he';cases he'
  exact⟨he,hr.lt⟩
 refine⟨le,all,loud,fun id b hb=> ?_,fun a0 a1 b1 b2 e1 e2 hn a4 a5 ho a2 a3=> ?_,fun a0 a1 b1 b2 e1 e2 hn a4 a5 a2 a3=> ?_,fun g hg=>(hrel.glob g hg).2,hrel.size,hrel.rnd⟩
 ·rcases cls id b hb with⟨c1,c2⟩|⟨c1,c2⟩
  ·exact hrel.blkA id b c1
  ·obtain⟨e,he,hr⟩:=V.blk id b c1
   exact⟨e,by rw[hext id c2];exact he,hr.keep hle' (hheap _ hr.lt)⟩
 ·rcases cls a0 b1 a4 with⟨c1,c2⟩|⟨c1,c2⟩<;>rcases cls a1 b2 a5 with⟨d1,d2⟩|⟨d1,d2⟩
  ·exact hrel.sepA a0 a1 b1 b2 e1 e2 hn c1 d1 ho a2 a3
  ·have:=hnew a0 e1 c2 a2
   have:=(oldblk a1 b2 d1 d2 e2 a3).2
   exact .inl (by omega)
  ·have:=hnew a1 e2 d2 a3
   have:=(oldblk a0 b1 c1 c2 e1 a2).2
   exact .inl (by omega)
  ·exact V.sep a0 a1 b1 b2 e1 e2 hn c1 d1 ho (oldblk a0 b1 c1 c2 e1 a2).1 (oldblk a1 b2 d1 d2 e2 a3).1
 ·rcases xcls a0 b1 a4 with⟨c1,c2⟩|⟨c1,c2⟩<;>rcases cls a1 b2 a5 with⟨d1,d2⟩|⟨d1,d2⟩
  ·obtain⟨x1,x2⟩:=c1
   obtain⟨y1,y2⟩:=d2
   exact absurd (show a0=a1 by omega) hn
  ·have:=hnew a0 e1 c1 a2
   have:=(oldblk a1 b2 d1 d2 e2 a3).2
   omega
  ·have:=hnew a1 e2 d2 a3
   have:=(oldblk a0 b1 (.inr c1) c2 e1 a2).2
   omega
  ·exact V.xsep a0 a1 b1 b2 e1 e2 hn c1 d1 (oldblk a0 b1 (.inr c1) c2 e1 a2).1 (oldblk a1 b2 d1 d2 e2 a3).1
theorem Vj(V:fY P GL B ops h0 st ld N listed φ w m){listed':Array Bool}{m' n1:Nat}(hle':φ.le φ'){Mx Mx':aA}{L:List Nat}(hp:Post P GL B φ φ' Mx Mx' L w w')(hsee: ∀id b,Mx.getA id=some b->VV st ld h0 N m listed id b)(hn1:Mx'.next=n1)
  (htame:(∃id b,XV st ld h0 N m listed id b/\n1<=id)->(∀t∈L,∃b,Mx.getA t=some b)/\(∀id b,id<Mx.next->Mx'.getA id=some b-> ∃b0,Mx.getA id=some b0))
  (le:m'<=N) (all: ∀j,j<N->listed'.getD j false=true->ld j≠0->j<m'\/zZ ops ld j) (loud: ∀j,j<m'->listed'.getD j false=false->ld j<=1)
  (cls: ∀id b,VV st ld h0 N m' listed' id b->(Mx'.getA id=some b/\id<n1)\/(XV st ld h0 N m listed id b/\n1<=id))
  (xcls: ∀id b,XV st ld h0 N m' listed' id b->XV st ld h0 N m listed id b/\n1<=id):
  fY P GL B ops h0 st ld N listed' φ' w' m':=by
 have hnx:=hp.next
 have hX: ∀id,n1<=id->φ' id=φ id:=fun id h=>hp.ext id (.inr (by omega))
 have tne: ∀id b e,XV st ld h0 N m listed id b->n1<=id->φ id=some e-> ∀t∈L,∀e0,φ t=some e0->e0.block≠e.block:=fun id b e hx hid he t ht e0 a5=>by
  obtain⟨bt,hbt⟩:=(htame ⟨id,b,hx,hid⟩).1 t ht
  have:=(bK.1 hbt).1
  exact fun h=>V.xsep id t b bt e e0 (by omega) hx (hsee t bt hbt) he a5 h.symm
 have keepX: ∀id b e,XV st ld h0 N m listed id b->n1<=id->φ id=some e->e.block<w.heap.size->w'.heap[e.block]?=w.heap[e.block]?:=fun id b e hx hid he hlt=>by
  rcases hp.fr.block e.block hlt with h|⟨_,t,ht,e0,a5,a4⟩
  ·exact h
  ·exact absurd a4 (tne id b e hx hid he t ht e0 a5)
 have ne: ∀a0 a1 b1 b2 e1 e2,Mx'.getA a0=some b1->a0<n1->XV st ld h0 N m listed a1 b2->n1<=a1->φ' a0=some e1->φ' a1=some e2->e1.block≠e2.block:=fun a0 a1 b1 b2 e1 e2 c1 c2 d1 d2 a3 a2=>by
  rw[hX a1 d2] at a2
  by_cases h:a0<Mx.next
  ·rw[hp.ext a0 (.inl h)] at a3
   obtain⟨b0,a4⟩:=(htame ⟨a1,b2,d1,d2⟩).2 a0 b1 h c1
   exact fun hh=>V.xsep a1 a0 b2 b0 e2 e1 (by omega) d1 (hsee a0 b0 a4) a2 a3 hh.symm
  ·rcases hp.newb a0 e1 (by omega) (by omega) a3 with h3|⟨t,ht,e0,a5,a4⟩
   ·obtain⟨e',he',hr⟩:=V.blk a1 b2 (.inr d1)
    rw[a2] at he';cases he'
    have:=hr.lt;omega
   ·rw[<-a4];exact tne a1 b2 e2 d1 d2 a2 t ht e0 a5
 refine⟨le,all,loud,fun id b hb=> ?_,fun a0 a1 b1 b2 e1 e2 hn a6 a7 ho a3 a2=> ?_,fun a0 a1 b1 b2 e1 e2 hn a6 a7 a3 a2=> ?_,fun g hg=>(hp.rel.glob g hg).2,hp.rel.size,hp.rel.rnd⟩
 ·rcases cls id b hb with⟨c1,c2⟩|⟨c1,c2⟩
  ·exact hp.rel.blkA id b c1
  ·obtain⟨e,he,hr⟩:=V.blk id b (.inr c1)
   exact⟨e,by rw[hX id c2];exact he,hr.keep hle' (keepX id b e c1 c2 he hr.lt)⟩
 ·rcases cls a0 b1 a6 with⟨c1,c2⟩|⟨c1,c2⟩<;>rcases cls a1 b2 a7 with⟨d1,d2⟩|⟨d1,d2⟩
  ·exact hp.rel.sepA a0 a1 b1 b2 e1 e2 hn c1 d1 ho a3 a2
  ·exact .inl (ne a0 a1 b1 b2 e1 e2 c1 c2 d1 d2 a3 a2)
  ·exact .inl fun h=>ne a1 a0 b2 b1 e2 e1 d1 d2 c1 c2 a2 a3 h.symm
  ·rw[hX a0 c2] at a3
   rw[hX a1 d2] at a2
   exact V.sep a0 a1 b1 b2 e1 e2 hn (.inr c1) (.inr d1) ho a3 a2
 ·obtain⟨c1,c2⟩:=xcls a0 b1 a6
  rcases cls a1 b2 a7 with⟨d1,d2⟩|⟨d1,d2⟩
  ·exact fun h=>ne a1 a0 b2 b1 e2 e1 d1 d2 c1 c2 a2 a3 h.symm
  ·rw[hX a0 c2] at a3
   rw[hX a1 d2] at a2
   exact V.xsep a0 a1 b1 b2 e1 e2 hn c1 (.inr d1) a3 a2
theorem qJ(hsz:i<listed.size)(hld:ld i=0)(id:Nat)(b:aW):(VV st ld h0 N m (listed.setIfInBounds i true) id b->VV st ld h0 N m listed id b)/\(XV st ld h0 N m (listed.setIfInBounds i true) id b->XV st ld h0 N m listed id b):=by
 have hset: ∀j,(listed.setIfInBounds i true).getD j false=(decide (j=i)||listed.getD j false):=fun j=>hZ hsz
 have hx:XV st ld h0 N m (listed.setIfInBounds i true) id b->XV st ld h0 N m listed id b:=by
  rintro⟨j,c1,c2,c3,c4,c5⟩
  refine⟨j,c1,c2,?_,c4,c5⟩
  rw[hset] at c3
  rcases Bool.or_eq_true _ _▸c3 with h|h
  ·have:j=i:=by simpa using h
   subst this;exact absurd hld c4
  ·exact h
 refine⟨fun h=> ?_,hx⟩
 rcases h with h|h
 ·left
  obtain⟨a1,a2,a3,a4⟩:=fL.1 h
  refine fL.2 ⟨a1,?_,a3,a4⟩
  rintro⟨j,c1,c2,c3,c4⟩
  have hji:j≠i:=fun x=>c3 (by rw[x];exact hld)
  exact a2 ⟨j,c1,by rw[hset,c2];simp [hji],c3,c4⟩
 ·exact .inr (hx h)
theorem Hp(hsz:i<listed.size)(hld:ld i=0){q:Nat->Prop}(h: ∀j,j<N->listed.getD j false=true->ld j≠0->q j): ∀j,j<N->(listed.setIfInBounds i true).getD j false=true->ld j≠0->q j:=fun j hj hD hne=>by
 rw[hZ hsz] at hD
 rcases Bool.or_eq_true _ _▸hD with h'|h'
 ·have:j=i:=by simpa using h'
  subst this;omega
 ·exact h j hj h' hne
theorem Bs(hsz:i<listed.size)(h: ∀j,j<m->listed.getD j false=false->ld j<=1): ∀j,j<m->(listed.setIfInBounds i true).getD j false=false->ld j<=1:=fun j hj hD=>by
 rw[hZ hsz] at hD
 simp only [Bool.or_eq_false_iff,decide_eq_false_iff_not] at hD
 exact h j hj hD.2
theorem Iz(V:fY P GL B ops h0 st ld N listed φ w m)(hsz:i<listed.size)(hld:ld i=0):fY P GL B ops h0 st ld N (listed.setIfInBounds i true) φ w m:=
 ⟨V.le,Hp hsz hld V.all,Bs hsz V.loud,fun id b hb=>V.blk id b ((qJ hsz hld id b).1 hb),
  fun a b c d e f g h1 h2=>V.sep a b c d e f g ((qJ hsz hld a c).1 h1) ((qJ hsz hld b d).1 h2),
  fun a b c d e f g h1 h2=>V.xsep a b c d e f g ((qJ hsz hld a c).2 h1) ((qJ hsz hld b d).1 h2),V.glob,V.size,V.rnd⟩
theorem Nx(hA:bO callF)(R:rJ P GL callF ops before h0 S st ld N)(V:fY P GL B ops h0 st ld N listed φ w m)(hi:i<N)(hsz:i<listed.size)(hun:listed.getD i false=false)
  {H:List (Nat×Nat)} (h3: ∀id,aZ H id=true->id<(st i).M.next) (hquiet:ld i<=1)
  (q1: ∀k,m<=k->k<i->ld k<=1) (q2: ∀k,i<k->k<m->ld k<=1)
  (hle':φ.le φ') {M':aA} (hM:(st (i+1)).M={M' with hide:=h0}) (hMh:M'.hide=H++h0) (hp:Post P GL B φ φ' {(st i).M with hide:=H++h0} M' [] w w'):
  ∃m',fY P GL B ops h0 st ld N (listed.setIfInBounds i true) φ' w' m':=by
 have hset: ∀j,(listed.setIfInBounds i true).getD j false=(decide (j=i)||listed.getD j false):=fun j=>hZ (by omega)
 have hMn:(st (i+1)).M.next=M'.next:=by rw[hM]
 have hMb:(st (i+1)).M.blks=M'.blks:=by rw[hM]
 have hle:=V.le
 let m':=max m (i+1)
 have hm'N:m'<=N:=by show max m (i+1)<=N;omega
 have hmm':m<=m':=Nat.le_max_left _ _
 have him':i+1<=m':=Nat.le_max_right _ _
 have hcs:m'=m\/m'=i+1:=by show max m (i+1)=m\/max m (i+1)=i+1;omega
 have hquietAll: ∀k,i+1<=k->k<m'->ld k<=1:=fun k a b=>q2 k (by omega) (by omega)
 have qall: ∀k,m<=k->k<m'->ld k<=1:=fun k a b=>by
  by_cases hki:k=i
  ·subst hki;exact hquiet
  ·exact q1 k a (by omega)
 have a5: ∀id,id<(st m).M.next->(st m').M.blks.get id=(st m).M.blks.get id:=fun id hid=>R.keep hA m m' hmm' hm'N qall id hid
 have a0: ∀id,id<(st (i+1)).M.next->(st m').M.blks.get id=(st (i+1)).M.blks.get id:=fun id hid=>R.keep hA (i+1) m' him' hm'N hquietAll id hid
 have hheap: ∀k,k<w.heap.size->w'.heap[k]?=w.heap[k]?:=fun k hk=>by
  rcases hp.fr.block k hk with h|⟨_,t,ht,_⟩
  ·exact h
  ·cases ht
 have xc: ∀id b,XV st ld h0 N m' (listed.setIfInBounds i true) id b->XV st ld h0 N m listed id b/\ ¬In st i id:=fun id b=>by
  rintro⟨j,c1,c2,c3,c4,c5,c6,c7⟩
  have hji:j≠i:=by omega
  rw[hset] at c3
  have hd:listed.getD j false=true:=by simpa [hji] using c3
  exact⟨⟨j,by omega,c2,hd,c4,c5,c6,c7⟩,fun h=>hji (R.ranges hA c2 hi c5 c6 h.1 h.2)⟩
 refine⟨m',Lc (i:=i) V hle' hp.rel (fun id hn=>hp.ext id (by
   rw[<-hMn]
   show id<(st i).M.next\/_
   unfold In at hn
   omega)) (fun id e hin he=> ?_) hheap hm'N (fun j hj hD hne=> ?_) (fun j hj hD=> ?_) (fun id b hb=> ?_) fun id b hb=> .inr (xc id b hb)⟩
 ·rcases hp.newb id e hin.1 (by rw[<-hMn];exact hin.2) he with h|⟨t,ht,_⟩
  ·exact h
  ·cases ht
 ·rw[hset] at hD
  rcases Bool.or_eq_true _ _▸hD with h|h
  ·have:j=i:=by simpa using h
   left;omega
  ·rcases V.all j hj h hne with h|h
   ·left;omega
   ·exact .inr h
 ·rw[hset] at hD
  simp only [Bool.or_eq_false_iff,decide_eq_false_iff_not] at hD
  rcases Nat.lt_or_ge j m with h|h
  ·exact V.loud j h hD.2
  ·exact qall j h hj
 ·rcases hb with hb|hb
  ·obtain⟨a1,a2,a3,a4⟩:=fL.1 hb
   by_cases hr:In st i id
   ·left
    refine⟨?_,hr⟩
    obtain⟨r1,r2⟩:=hr
    rw[bK,hMh,gW,<-hMn,<-hMb]
    refine⟨r2,?_,by rw[<-a0 id r2];exact a4⟩
    rw[a3,Bool.or_false]
    cases hh:aZ H id
    ·rfl
    ·have:=h3 id hh;omega
   ·right
    refine⟨?_,hr⟩
    have old:(id<(st 0).M.next\/ ∃j,j<m/\listed.getD j false=true/\(st j).M.next<=id/\id<(st (j+1)).M.next)->VV st ld h0 N m listed id b:=fun hD=>by
     have hidm:id<(st m).M.next:=by
      rcases hD with h|⟨j,b1,_,_,b3⟩
      ·exact Nat.lt_of_lt_of_le h (R.mono hA 0 m (by omega) hle)
      ·exact Nat.lt_of_lt_of_le b3 (R.mono hA (j+1) m (by omega) hle)
     refine .inl (fL.2 ⟨hidm,?_,a3,by rw[<-a5 id hidm];exact a4⟩)
     rintro⟨j',c1,c2,c3,c4,c5⟩
     rcases hD with h|⟨j,b1,b2,b3,b4⟩
     ·have:=R.mono hA 0 j' (by omega) (by omega);omega
     ·have:=R.ranges hA (by omega) (by omega) c4 c5 b3 b4
      subst this
      rw[c2] at b2;cases b2
    rcases R.owner m' hm'N a1 with h|⟨j,b1,b2,b3⟩
    ·exact old (.inl h)
    ·have hne:=R.quiet hA (by omega) b2 b3
     have hji:j≠i:=fun x=>by subst x;exact hr ⟨b2,b3⟩
     have hd:listed.getD j false=true:=by
      cases hd:listed.getD j false
      ·exact absurd ⟨j,b1,by rw[hset,hd];simp [hji],hne,b2,b3⟩ a2
      ·rfl
     rcases Nat.lt_or_ge j m with hjm|hjm
     ·exact old (.inr ⟨j,hjm,hd,b2,b3⟩)
     ·refine .inr ⟨j,hjm,by omega,hd,hne,b2,b3,a3,?_⟩
      rw[<-R.keep hA (j+1) m' (by omega) hm'N (fun k e1 e2=>qall k (by omega) e2) id b3];exact a4
  ·obtain⟨x1,x2⟩:=xc id b hb
   exact .inr ⟨.inr x1,x2⟩
def pR(M:aA)(h0:List (Nat×Nat)):aA:={M with hide:=(0,M.next)::h0}
theorem Kt{M:aA}{id:Nat}{b:aW}: ¬(pR M h0).getA id=some b:=fun h=>by
 obtain⟨h1,h2,_⟩:=bK.1 h
 have h3:Nat.ble 0 id=true:=Nat.ble_eq_true_of_le (Nat.zero_le _)
 have h4:Nat.blt id M.next=true:=Nat.ble_eq_true_of_le h1
 simp [pR,aZ,h3,h4] at h2
theorem Ef{M:aA}{b:aW}{id:Nat}{c:aW}(hid:id=M.next)(hh:aZ h0 id=false)(hc:c=b):((pR M h0).alloc b).getA id=some c:=by
 subst hid hc
 rw[iV,if_pos (show M.next=(pR M h0).next from rfl)]
 have:aZ (pR M h0).hide (pR M h0).next=false:=by
  show aZ ((0,M.next)::h0) M.next=false
  have h4:Nat.blt M.next M.next=false:=by
   cases hb:Nat.blt M.next M.next
   ·rfl
   ·have:M.next<M.next:=Nat.le_of_ble_eq_true hb
    omega
  simp only [aZ,h4,Bool.and_false,Bool.false_or];exact hh
 show(bif aZ (pR M h0).hide (pR M h0).next then none else some c)=some c
 rw[this];rfl
theorem Nw(V:fY P GL B ops h0 st ld N listed φ w m)(hg: ∀g∈GL,g<(st i).M.next):gI P GL B φ (pR (st i).M h0) w:=
 V.sub (fun _ _ h=>absurd h Kt) hg
theorem Qm(hA:bO callF)(R:rJ P GL callF ops before h0 S st ld N)(V:fY P GL B ops h0 st ld N listed φ w m)(hi:i<N)(hsz:i<listed.size)(hun:listed.getD i false=false)(hMk:zZ ops ld i)
  (hdown: ∀j,j<N->listed.getD j false=true-> ∀d,before[j]?=some d-> ∀k,d.testBit k=true->listed.getD k false=true)
  (hle':φ.le φ') {b0:aW} (hMb:(st (i+1)).M.blks=(st i).M.blks.set (st i).M.next (some b0)) (hMn:(st (i+1)).M.next=(st i).M.next+1)
  (hp:Post P GL B φ φ' (pR (st i).M h0) ((pR (st i).M h0).alloc b0) [] w w'):fY P GL B ops h0 st ld N (listed.setIfInBounds i true) φ' w' m:=by
 have hset: ∀j,(listed.setIfInBounds i true).getD j false=(decide (j=i)||listed.getD j false):=fun j=>hZ (by omega)
 have hle:=V.le
 have hld:=hMk.2.2
 have hheap: ∀k,k<w.heap.size->w'.heap[k]?=w.heap[k]?:=fun k hk=>by
  rcases hp.fr.block k hk with h|⟨_,t,ht,_⟩
  ·exact h
  ·cases ht
 have hcont:(st (i+1)).M.blks.get (st i).M.next=some b0:=by rw[hMb,Tr.get_set,if_pos rfl]
 have keepMk: ∀j,i+1<=j->j<=m->(st j).M.blks.get (st i).M.next=(st (i+1)).M.blks.get (st i).M.next:=by
  intro j
  induction j with
  |zero=>intro h _;omega
  |succ k ih=>
   intro h1 h2
   by_cases hk:i=k
   ·subst hk;rfl
   ·rw[<-ih (by omega) (by omega)]
    have hkN:k<N:=by omega
    have hidk:(st i).M.next<(st k).M.next:=by
     have:=R.mono hA (i+1) k (by omega) (by omega);omega
    obtain⟨L,hL,hq,_⟩:=R.abs hA k hkN
    rcases Nat.lt_or_ge 1 (ld k) with hl|hl
    ·obtain⟨_,o,d,_,hb,hcase⟩:=R.steps k hkN
     rcases hcase with⟨_,_,hz⟩|⟨_,r,M',H,hop,hput,h1',_,_,h7⟩|⟨_,_,_,_,_,_,_,_,_,_,hz,_⟩
     ·omega
     ·have hDk:listed.getD k false=true:=by
       cases hd:listed.getD k false
       ·have:=V.loud k (by omega) hd;omega
       ·rfl
      have hnd:d.testBit i=false:=by
       cases hd:d.testBit i
       ·rfl
       ·have:=hdown k hkN hDk d hb i hd
        rw[hun] at this;cases this
      rcases h7 i (by omega) (by omega) (by omega) with h8|h8|⟨_,h9|h9⟩
      ·rw[hnd] at h8;cases h8
      ·omega
      ·have:=h9.2.1;omega
      ·obtain⟨t,x,y,a,v,_,_,_,hs,_,_⟩:=Hb h9.1 hop
       obtain⟨b,b',g1,g2,_⟩:=jK hs
       have hhid:=h1' i (by omega) (by omega) hnd (st i).M.next (Nat.le_refl _) (by omega)
       have hne:(st i).M.next≠a.block:=fun hx=>by
        have:=(bR.1 g1).2.1
        simp only [gW,Bool.or_eq_false_iff] at this
        rw[<-hx,hhid] at this;cases this.1
       have a0:(st (k+1)).M.blks=(st k).M.blks.set a.block (some b'):=by
        have:=eV hput
        rw[this,g2];rfl
       rw[a0,Tr.get_set,if_neg hne]
     ·omega
    ·have hnil:=hq hl
     subst hnil
     exact hL.keep _ hidk (by simp)
 have xc: ∀id b,XV st ld h0 N m (listed.setIfInBounds i true) id b->(((pR (st i).M h0).alloc b0).getA id=some b/\In st i id)\/(XV st ld h0 N m listed id b/\ ¬In st i id):=fun id b=>by
  rintro⟨j,c1,c2,c3,c4,c5,c6,c7,c8⟩
  by_cases hji:j=i
  ·subst hji
   have hid:id=(st j).M.next:=by omega
   exact .inl ⟨Ef hid c7 (by rw[hid,hcont] at c8;cases c8;rfl),c5,c6⟩
  ·rw[hset] at c3
   have hd:listed.getD j false=true:=by simpa [hji] using c3
   exact .inr ⟨⟨j,c1,c2,hd,c4,c5,c6,c7,c8⟩,fun h=>hji (R.ranges hA c2 hi c5 c6 h.1 h.2)⟩
 refine Lc (i:=i) V hle' hp.rel (fun id hn=>hp.ext id ?_) (fun id e hin he=> ?_) hheap hle (fun j hj hD hne=> ?_) (Bs hsz V.loud) (fun id b hb=> ?_) fun id b hb=> ?_
 ·show id<(st i).M.next\/(st i).M.next+1<=id
  unfold In at hn
  omega
 ·rcases hp.newb id e hin.1 (by have:=hin.2;show id<(st i).M.next+1;omega) he with h|⟨t,ht,_⟩
  ·exact h
  ·cases ht
 ·rw[hset] at hD
  rcases Bool.or_eq_true _ _▸hD with h|h
  ·have:j=i:=by simpa using h
   subst this;exact .inr hMk
  ·exact V.all j hj h hne
 ·rcases hb with hb|hb
  ·obtain⟨a1,a2,a3,a4⟩:=fL.1 hb
   by_cases hr:In st i id
   ·left
    have hid:id=(st i).M.next:=by unfold In at hr;omega
    have him:i+1<=m:=by
     rcases Nat.lt_or_ge i m with h|h
     ·exact h
     ·have:=R.mono hA m i h (by omega);omega
    refine⟨Ef hid a3 ?_,hr⟩
    rw[hid,keepMk m him (Nat.le_refl _),hcont] at a4
    cases a4;rfl
   ·right
    refine⟨.inl (fL.2 ⟨a1,?_,a3,a4⟩),hr⟩
    rintro⟨j,c1,c2,c3,c4,c5⟩
    have hji:j≠i:=fun x=>by subst x;exact hr ⟨c4,c5⟩
    exact a2 ⟨j,c1,by rw[hset,c2];simp [hji],c3,c4,c5⟩
  ·rcases xc id b hb with⟨x1,x2⟩|⟨x1,x2⟩
   ·exact .inl ⟨x1,x2⟩
   ·exact .inr ⟨.inr x1,x2⟩
 ·rcases xc id b hb with⟨x1,x2⟩|h
  ·exact .inl ⟨x2,by omega⟩
  ·exact .inr h
theorem Iy(hA:bO callF)(R:rJ P GL callF ops before h0 S st ld N)(V:fY P GL B ops h0 st ld N listed φ w m)(hi:i<N)(hsz:i<listed.size)(hun:listed.getD i false=false){o:Oper}(ho:ops[i]?=some o)
  (hdown: ∀j,j<N->listed.getD j false=true-> ∀d,before[j]?=some d-> ∀k,d.testBit k=true->listed.getD k false=true)
  {deps:Nat} (hdeps: ∀j,deps.testBit j=true->listed.getD j false=true)
  (h4: ∀k,k<i->ld k≠0->ld i≠0->deps.testBit k=true\/(ld k=1/\ld i=1)\/vH ops o ld k i) (hloud:2<=ld i)
  (hle':φ.le φ') {Mx Mx':aA} {L:List Nat} (hsee: ∀id b,Mx.getA id=some b->VV st ld h0 N m listed id b) (hn:Mx'.next=(st (i+1)).M.next) (hlog:Mx'.log=L++Mx.log) (htm:sE o=true->Oq Mx Mx')
  (hvs: ∀id b,(VS st ld h0 (i+1) (listed.setIfInBounds i true)).getA id=some b->Mx'.getA id=some b) (hp:Post P GL B φ φ' Mx Mx' L w w'):
  fY P GL B ops h0 st ld N (listed.setIfInBounds i true) φ' w' (i+1):=by
 have hset: ∀j,(listed.setIfInBounds i true).getD j false=(decide (j=i)||listed.getD j false):=fun j=>hZ (by omega)
 have hmi:m<=i:=by
  rcases Nat.lt_or_ge i m with h|h
  ·have:=V.loud i h hun;omega
  ·exact h
 have xc: ∀id b,XV st ld h0 N (i+1) (listed.setIfInBounds i true) id b->XV st ld h0 N m listed id b/\(st (i+1)).M.next<=id:=fun id b=>by
  rintro⟨j,c1,c2,c3,c4,c5,c6⟩
  have hji:j≠i:=by omega
  rw[hset] at c3
  have hd:listed.getD j false=true:=by simpa [hji] using c3
  exact⟨⟨j,by omega,c2,hd,c4,c5,c6⟩,Nat.le_trans (R.mono hA (i+1) j c1 (by omega)) c5⟩
 refine Vj V hle' hp hsee hn (fun hx=> ?_) hi (fun j hj hD hne=> ?_) (fun j hj hD=> ?_) (fun id b hb=> ?_) xc
 ·obtain⟨id,b,⟨j,c1,c2,c3,c4,c5,c6,_⟩,hid⟩:=hx
  have hij:i<j:=by
   rcases Nat.lt_or_ge i j with h|h
   ·exact h
   ·have:=R.mono hA (j+1) (i+1) (by omega) (by omega);omega
  obtain⟨_,oj,d,hoj,hb,hcase⟩:=R.steps j c2
  have hlo:sE o=true:=by
   rcases hcase with⟨_,_,hz⟩|⟨_,r,M',H,_,_,_,_,_,h7⟩|⟨_,_,_,_,_,_,_,_,_,_,hz,_⟩
   ·exact absurd hz c4
   ·rcases h7 i hij (by omega) c4 with h8|h8|⟨_,h9|h9⟩
    ·have:=hdown j c2 c3 d hb i h8
     rw[hun] at this;cases this
    ·omega
    ·have:=h9.2.2
     rw[Gr ho] at this;exact this
    ·have:=h9.2.1;omega
   ·exact absurd hz c4
  obtain⟨t1,t2⟩:=(htm hlo).sees
  exact⟨t1 L hlog,t2⟩
 ·rw[hset] at hD
  rcases Bool.or_eq_true _ _▸hD with h|h
  ·have:j=i:=by simpa using h
   left;omega
  ·rcases V.all j hj h hne with h|h
   ·left;omega
   ·exact .inr h
 ·rw[hset] at hD
  simp only [Bool.or_eq_false_iff,decide_eq_false_iff_not] at hD
  rcases Nat.eq_zero_or_pos (ld j) with hz|hz
  ·omega
  ·rcases h4 j (by omega) (by omega) (by omega) with h5|h5|⟨_,h5|h5⟩
   ·have:=hdeps j h5
    rw[hD.2] at this;cases this
   ·omega
   ·have:=h5.2.1;omega
   ·have:=h5.2.1;omega
 ·rcases hb with hb|hb
  ·exact .inl ⟨hvs id b hb,(fL.1 hb).1⟩
  ·exact .inr (xc id b hb)
end mem
def qA(T:Tr Value):List Nat->Tr Value
 | []=> .nil
 |t::l=>(qA T l).set t (T.get t)
theorem kV(T:Tr Value): ∀(l:List Nat) (t:Nat),(qA T l).get t=if t∈l then T.get t else none
 | [],t=>by simp [qA,Tr.get]
 |u::l,t=>by
  simp only [qA]
  rw[Tr.get_set,kV T l]
  by_cases h:t=u
  ·subst h;simp
  ·simp [h]
def kR(ops:Array Oper)(j:Nat):Option Nat:=(ops[j]?).bind (·.dst)
def Zp:AR->Value
 | .val v=>v
 | .skip=>undef
theorem mS{s s':St}{o:Oper}{r:AR}(h:oQ o r s=some s'):(∀t,o.dst≠some t->s'.T.get t=s.T.get t)/\s'.n=s.n/\(∀d,o.dst=some d->d<s.n/\s'.T.get d=some (Zp r)):=by
 unfold oQ at h
 split at h
 ·rename_i hd
  simp at h;subst h
  exact⟨fun _ _=>rfl,rfl,fun d h=>by rw[hd] at h;cases h⟩
 ·rename_i d v hd
  cases hb:Nat.blt d s.n<;>simp only [hb,cond_true,cond_false] at h
  ·cases h
  ·cases h
   refine⟨fun t ht=> ?_,rfl,fun d' hd'=> ?_⟩
   ·show(s.T.set d (some v)).get t=_
    rw[Tr.get_set,if_neg (fun x=>ht (by rw[x];exact hd))]
   ·rw[hd] at hd';cases hd'
    exact⟨Nat.le_of_ble_eq_true hb,by show(s.T.set d (some v)).get d=_;rw[Tr.get_set,if_pos rfl];rfl⟩
 ·rename_i d hd
  cases hb:Nat.blt d s.n<;>simp only [hb,cond_true,cond_false] at h
  ·cases h
  ·cases h
   refine⟨fun t ht=> ?_,rfl,fun d' hd'=> ?_⟩
   ·show(s.T.set d (some undef)).get t=_
    rw[Tr.get_set,if_neg (fun x=>ht (by rw[x];exact hd))]
   ·rw[hd] at hd';cases hd'
    exact⟨Nat.le_of_ble_eq_true hb,by show(s.T.set d (some undef)).get d=_;rw[Tr.get_set,if_pos rfl];rfl⟩
def zP(ops:Array Oper)(st:Nat->St)(N:Nat)(listed:Array Bool)(t:Nat)(v:Value):Prop:=
 (∃j,j<N/\listed.getD j false=true/\kR ops j=some t/\(∀k,k<N->listed.getD k false=true->kR ops k=some t->k<=j)/\(st (j+1)).T.get t=some v)\/
 ((∀k,k<N->listed.getD k false=true->kR ops k≠some t)/\(st 0).T.get t=some v)
namespace rJ
theorem slot(R:rJ P GL callF ops before h0 S st ld N){j:Nat}(hj:j<N){t:Nat}(h:kR ops j≠some t):(st (j+1)).T.get t=(st j).T.get t:=by
 obtain⟨hh,o,deps,ho,hb,⟨h1,h2,h3⟩|⟨h1,r,M',H,h2,h3,_⟩|⟨h1,_,_,_,_,_,_,_,_,h3,_,_⟩⟩:=R.steps j hj
 ·exact(mS h2).1 t (fun x=>h (by simp [kR,ho,x]))
 ·exact(mS h3).1 t (fun x=>h (by simp [kR,ho,x]))
 ·exact(mS h3).1 t (fun x=>h (by simp [kR,ho,x]))
theorem nn(R:rJ P GL callF ops before h0 S st ld N): ∀j,j<=N->(st j).n=(st 0).n
 |0,_=>rfl
 |j+1,h=>by
  rw[<-R.nn j (by omega)]
  obtain⟨hh,o,deps,ho,hb,⟨h1,h2,h3⟩|⟨h1,r,M',H,h2,h3,_⟩|⟨h1,_,_,_,_,_,_,_,_,h3,_,_⟩⟩:=R.steps j h
  ·exact(mS h2).2.1
  ·exact(mS h3).2.1
  ·exact(mS h3).2.1
theorem last(R:rJ P GL callF ops before h0 S st ld N)(t:Nat): ∀i,i<=N->(∃j,j<i/\kR ops j=some t/\(∀k,j<k->k<i->kR ops k≠some t)/\(st i).T.get t=(st (j+1)).T.get t)\/
  ((∀k,k<i->kR ops k≠some t)/\(st i).T.get t=(st 0).T.get t)
 |0,_=> .inr ⟨fun k h=>absurd h (Nat.not_lt_zero _),rfl⟩
 |i+1,h=>by
  by_cases hd:kR ops i=some t
  ·exact .inl ⟨i,by omega,hd,fun k a b=>by omega,rfl⟩
  ·rw[R.slot h hd]
   rcases R.last t i (by omega) with⟨j,a,b,c,d⟩|⟨a,b⟩
   ·refine .inl ⟨j,by omega,b,fun k e f=> ?_,d⟩
    by_cases hk:k=i
    ·subst hk;exact hd
    ·exact c k e (by omega)
   ·refine .inr ⟨fun k e=> ?_,b⟩
    by_cases hk:k=i
    ·subst hk;exact hd
    ·exact a k (by omega)
end rJ
def Mv(P:Program)(GL:List Nat)(B:Bd)(ops:Array Oper)(h0:List (Nat×Nat))(st:Nat->St)(ld:Nat->Nat)(N:Nat):Array Bool->dC->World->Prop:=fun listed φ w=> ∃m,fY P GL B ops h0 st ld N listed φ w m
structure Inv(P:Program)(GL:List Nat)(B:Bd)(ops:Array Oper)(h0:List (Nat×Nat))(st:Nat->St)(ld:Nat->Nat)(N:Nat)(Mm:Array Bool->dC->World->Prop)(Lall:List Nat)(φ0:dC)(w0:World)(a0:Act)(listed:Array Bool)(φ:dC)(a:Act)(w:World):Prop where
 size:listed.size=ops.size
 closed: ∀(k:Nat) (o:Oper),listed.getD k false=true->ops[k]?=some o-> ∀e∈o.after,Region.binds .any e=true->listed.getD e.on false=true
 tsize:a.tmps.size=(st 0).n
 slots: ∀t v,zP ops st N listed t v-> ∃v',a.tmps[t]?=some v'/\bA φ v v'
 mem:Mm listed φ w
 fresh: ∀j,j<N->listed.getD j false=false-> ∀id,(st j).M.next<=id->id<(st (j+1)).M.next->φ id=none
 ext: ∀id,(id<(st 0).M.next\/(st N).M.next<=id)->φ id=φ0 id
 fr:Fr B φ0 Lall w0 w
 newb: ∀id e,(st 0).M.next<=id->id<(st N).M.next->φ id=some e->w0.heap.size<=e.block\/ ∃t∈Lall,∃e0,φ0 t=some e0/\e0.block=e.block
 defers:a.defers=a0.defers
theorem nI(hlex:mK ops){listed:Array Bool}(closed: ∀(k:Nat) (o:Oper),listed.getD k false=true->ops[k]?=some o-> ∀e∈o.after,Region.binds .any e=true->listed.getD e.on false=true):
  ∀(n k:Nat),k<n-> ∀(o:Oper),ops[k]?=some o->(∀e∈o.after,Region.binds .any e=true->listed.getD e.on false=true)-> ∀d,(bD ops.toList [])[k]?=some d-> ∀m,d.testBit m=true->listed.getD m false=true
 |0,k,hk,_,_,_,_,_,_,_=>absurd hk (Nat.not_lt_zero _)
 |n+1,k,hk,o,ho,he,d,hd,m,hm=>by
  obtain⟨d',hd',hsp⟩:=(vS ops.toList []).2.2 k o (by simpa using ho)
  simp only [List.length_nil,Nat.zero_add] at hd'
  rw[hd] at hd';cases hd'
  obtain⟨e,hee,hb,hh⟩:=hsp m hm
  have hD:=he e hee hb
  rcases hh with rfl|⟨d2,a0,a1⟩
  ·exact hD
  ·have hlt:=hlex.back k o ho e hee hb
   have hsz:e.on<ops.size:=by have:=(Array.getElem?_eq_some_iff.1 ho).1;omega
   exact nI hlex closed n e.on (by omega) ops[e.on] (by simp [hsz]) (closed e.on _ hD (by simp [hsz])) d2 a0 m a1
theorem Hu{o:Oper}{T:Tr Value}{M M':aA}{r:AR}(h:jG P GL callF o T M=some (0,r,M')):eT P GL o T=some r:=by
 unfold jG at h
 split at h
 ·rename_i r0 hr0
  simp at h;rw[hr0,h.1]
 ·split at h
  ·cases h
  ·rename_i hne
   exact absurd h (hne r M')
section step
variable{Mm:Array Bool->dC->World->Prop}{Lall:List Nat}{φ0:dC}{w0:World}{a0:Act}{listed:Array Bool}{φ:dC}{a:Act}{w:World}{i:Nat}
theorem Inv.value(hNs:N<=ops.size)(hiN:i<=N)(hlex:mK ops)(R:rJ P GL callF ops before h0 S st ld N)(I:Inv P GL B ops h0 st ld N Mm Lall φ0 w0 a0 listed φ a w){o:Oper}(ho:ops[i]?=some o)(hun:listed.getD i false=false)
  (hedges: ∀e∈o.after,Region.binds .any e=true->listed.getD e.on false=true) {t:Nat} (ht:t∈o.looksAt ops) {v:Value} (hv:(st i).T.get t=some v):zP ops st N listed t v:=by
 have hi:i<ops.size:=(Array.getElem?_eq_some_iff.1 ho).1
 have later: ∀k,k<N->listed.getD k false=true->kR ops k=some t->k<i:=fun k hk hD hd=>by
  rcases Nat.lt_trichotomy k i with h|h|h
  ·exact h
  ·subst h;rw[hun] at hD;cases hD
  ·exfalso
   have hks:k<ops.size:=by omega
   have hok:ops[k]?=some ops[k]:=by simp [hks]
   have hdk:ops[k].dst=some t:=by simpa [kR,hok] using hd
   by_cases hedge: ∀e∈ops[k].after,Region.binds .any e=true->e.on≠i
   ·have:=(Oper.apart_spec (hlex.apart i k o ops[k] h ho hok hedge)).2.2 t hdk
    exact this ht
   ·simp only [Classical.not_forall,Classical.not_not] at hedge
    obtain⟨e,he,hb,hon⟩:=hedge
    have:=I.closed k _ hD hok e he hb
    rw[hon,hun] at this;cases this
 rcases R.last t i (by omega) with⟨j,a1,b,c,d⟩|⟨a1,b⟩
 ·left
  have hj:j<N:=by omega
  have hjs:j<ops.size:=by omega
  have hoj:ops[j]?=some ops[j]:=by simp [hjs]
  have hdj:ops[j].dst=some t:=by simpa [kR,hoj] using b
  refine⟨j,hj,?_,b,fun k hk hD hd=> ?_,by rw[<-d];exact hv⟩
  ·by_cases hedge: ∀e∈o.after,Region.binds .any e=true->e.on≠j
   ·exact absurd ht ((Oper.apart_spec (hlex.apart j i ops[j] o a1 hoj ho hedge)).1 t hdj)
   ·simp only [Classical.not_forall,Classical.not_not] at hedge
    obtain⟨e,he,hb,hon⟩:=hedge
    have:=hedges e he hb
    rw[hon] at this;exact this
  ·have:=later k hk hD hd
   rcases Nat.lt_or_ge j k with h|h
   ·exact absurd hd (c k h this)
   ·exact h
 ·right
  exact⟨fun k hk hD hd=>a1 k (later k hk hD hd) hd,by rw[<-b];exact hv⟩
theorem Inv.next(hNs:N<=ops.size)(hiN:i<N)(hA:bO callF)(hlex:mK ops)(R:rJ P GL callF ops before h0 S st ld N)(I:Inv P GL B ops h0 st ld N Mm Lall φ0 w0 a0 listed φ a w){o:Oper}(ho:ops[i]?=some o)(hun:listed.getD i false=false)
  (hedges: ∀e∈o.after,Region.binds .any e=true->listed.getD e.on false=true) {φ':dC} {w':World} {v':Value} {Li:List Nat} (hle:φ.le φ') (hmem:Mm (listed.setIfInBounds i true) φ' w')
  (hext: ∀id,¬((st i).M.next<=id/\id<(st (i+1)).M.next)->φ' id=φ id) (hfr:Fr B φ Li w w') (hLi: ∀t∈Li,t∈Lall)
  (hnew: ∀id e,(st i).M.next<=id->id<(st (i+1)).M.next->φ' id=some e->w.heap.size<=e.block\/ ∃t∈Li,∃e0,φ t=some e0/\e0.block=e.block)
  (hv: ∀d,o.dst=some d->d<(st 0).n/\ ∃v,(st (i+1)).T.get d=some v/\bA φ' v v'):
  Inv P GL B ops h0 st ld N Mm Lall φ0 w0 a0 (listed.setIfInBounds i true) φ' (a.put o.dst v') w':=by
 have hi:i<ops.size:=(Array.getElem?_eq_some_iff.1 ho).1
 have hset: ∀j,(listed.setIfInBounds i true).getD j false=(decide (j=i)||listed.getD j false):=fun j=>hZ (by rw[I.size];exact hi)
 have hdone: ∀j,(listed.setIfInBounds i true).getD j false=true->j=i\/listed.getD j false=true:=fun j h=>by
  rw[hset] at h
  rcases Bool.or_eq_true _ _▸h with h|h
  ·exact .inl (by simpa using h)
  ·exact .inr h
 have a8:(st 0).M.next<=(st i).M.next:=R.mono hA 0 i (by omega) (by omega)
 have a9:(st (i+1)).M.next<=(st N).M.next:=R.mono hA (i+1) N (by omega) (Nat.le_refl _)
 --a block of the log,told at the region's beginning
 have back: ∀t e,t∈Li->φ t=some e->(w0.heap.size<=e.block)\/ ∃t0∈Lall,∃e0,φ0 t0=some e0/\e0.block=e.block:=fun t e ht he=>by
  by_cases h1:(st 0).M.next<=t/\t<(st N).M.next
  ·exact I.newb t e h1.1 h1.2 he
  ·exact .inr ⟨t,hLi t ht,e,by rw[<-I.ext t (by omega)];exact he,rfl⟩
 refine⟨by simp [I.size],fun k ok hD hok e he hb=> ?_,?_,fun t v hs=> ?_,hmem,fun j hj hD id h1 h2=> ?_,fun id hid=> ?_,?_,fun id e h1 h2 he=> ?_,?_⟩
 ·rw[hset]
  rcases hdone k hD with rfl|h
  ·rw[ho] at hok;cases hok
   simp [hedges e he hb]
  ·simp [I.closed k ok h hok e he hb]
 ·cases hd:o.dst<;>simp [Act.put,I.tsize]
 ·by_cases htd:o.dst=some t
  ·obtain⟨hlt,v2,a6,a5⟩:=hv t htd
   have hdi:kR ops i=some t:=by simp [kR,ho,htd]
   have later: ∀k,k<N->listed.getD k false=true->kR ops k=some t->k<i:=fun k hk hD hd=>by
    rcases Nat.lt_trichotomy k i with h|h|h
    ·exact h
    ·subst h;rw[hun] at hD;cases hD
    ·exfalso
     have hks:k<ops.size:=by omega
     have hok:ops[k]?=some ops[k]:=by simp [hks]
     have hdk:ops[k].dst=some t:=by simpa [kR,hok] using hd
     by_cases hedge: ∀e∈ops[k].after,Region.binds .any e=true->e.on≠i
     ·exact(Oper.apart_spec (hlex.apart i k o ops[k] h ho hok hedge)).2.1 t htd hdk
     ·simp only [Classical.not_forall,Classical.not_not] at hedge
      obtain⟨e,he,hb,hon⟩:=hedge
      have:=I.closed k _ hD hok e he hb
      rw[hon,hun] at this;cases this
   have hval:(st (i+1)).T.get t=some v:=by
    rcases hs with⟨j,j1,j2,j3,j4,j5⟩|⟨j1,_⟩
    ·have hij:=j4 i hiN (by rw[hset];simp) hdi
     rcases hdone j j2 with rfl|h
     ·exact j5
     ·have:=later j j1 h j3;omega
    ·exact absurd hdi (j1 i hiN (by rw[hset];simp))
   rw[a6] at hval;cases hval
   refine⟨v',?_,a5⟩
   rw[htd]
   simp [Act.put,I.tsize,hlt]
  ·have hs':zP ops st N listed t v:=by
    have hdi:kR ops i≠some t:=by simp [kR,ho,htd]
    rcases hs with⟨j,j1,j2,j3,j4,j5⟩|⟨j1,j2⟩
    ·rcases hdone j j2 with rfl|h
     ·exact absurd j3 hdi
     ·exact .inl ⟨j,j1,h,j3,fun k hk hD hd=>j4 k hk (by rw[hset];simp [hD]) hd,j5⟩
    ·exact .inr ⟨fun k hk hD=>j1 k hk (by rw[hset];simp [hD]),j2⟩
   obtain⟨u,u1,u2⟩:=I.slots t v hs'
   refine⟨u,?_,u2.mono hle⟩
   cases hd:o.dst with
   |none=>exact u1
   |some d=>
    have:d≠t:=fun x=>htd (by rw[hd,x])
    simp only [Act.put]
    rw[Array.getElem?_setIfInBounds_ne this]
    exact u1
 ·rw[hset] at hD
  simp only [Bool.or_eq_false_iff,decide_eq_false_iff_not] at hD
  rw[hext id (fun h=>hD.1 (R.ranges hA hj hiN h1 h2 h.1 h.2))]
  exact I.fresh j hj hD.2 id h1 h2
 ·rw[hext id (by omega)]
  exact I.ext id hid
 ·refine⟨hfr.os.trans I.fr.os,hfr.tape.trans I.fr.tape,hfr.output.trans I.fr.output,Nat.le_trans I.fr.size hfr.size,fun k hk=> ?_⟩
  rcases I.fr.block k hk with e1|h
  ·rcases hfr.block k (Nat.lt_of_lt_of_le hk I.fr.size) with e2|⟨hB,t,ht,e,he,hbe⟩
   ·exact .inl (e2.trans e1)
   ·rcases back t e ht he with h|⟨t0,a2,e0,a1,a3⟩
    ·omega
    ·exact .inr ⟨hB,t0,a2,e0,a1,by omega⟩
  ·exact .inr h
 ·by_cases hr:(st i).M.next<=id/\id<(st (i+1)).M.next
  ·rcases hnew id e hr.1 hr.2 he with h|⟨t,ht,e1,a4,a7⟩
   ·exact .inl (Nat.le_trans I.fr.size h)
   ·rcases back t e1 ht a4 with h|⟨t0,a2,e0,a1,a3⟩
    ·exact .inl (by omega)
    ·exact .inr ⟨t0,a2,e0,a1,by omega⟩
  ·rw[hext id hr] at he
   exact I.newb id e h1 h2 he
 ·cases hd:o.dst<;>exact I.defers
def Iv(P:Program)(t:TypeId)(off:Nat)(b:aW):Option Value:=
 match P.underlying t with
 |some d=>
  bif dX d then
   match P.info? t with
   |some i=>match dA i.size (b.cs.drop off) with
    |some l=>some (.agg l.toArray)
    |none=>none
   |none=>none
  else b.cs[off]?
 |none=>none
theorem yE{t:TypeId}{a:Addr}{M:aA}{v:Value}:aX P t a M=some v↔ ∃b,M.get a.block=some b/\Iv P t a.off b=some v:=by
 unfold aX Iv
 cases P.underlying t with
 |none=>exact⟨fun h=>(by cases h),fun⟨_,_,h⟩=>(by cases h)⟩
 |some d=>cases M.get a.block with
  |none=>exact⟨fun h=>(by cases h),fun⟨_,h,_⟩=>(by cases h)⟩
  |some b=>exact⟨fun h=>⟨b,rfl,h⟩,fun⟨b',h1,h2⟩=>by cases h1;exact h2⟩
def iY(off n:Nat)(x y:Option aW):Prop:= ∀b,x=some b-> ∃b',y=some b'/\dD b'=dD b/\ ∀j,j<n->b'.cs[off+j]?=b.cs[off+j]?
theorem iY.refl(off n:Nat)(x:Option aW):iY off n x x:=fun b h=>⟨b,h,rfl,fun _ _=>rfl⟩
theorem iY.trans{off n:Nat}{x y z:Option aW}(h:iY off n x y)(k:iY off n y z):iY off n x z:=fun b hb=>by
 obtain⟨b1,h1,h2,h3⟩:=h b hb
 obtain⟨b2,k1,k2,k3⟩:=k b1 h1
 exact⟨b2,k1,k2.trans h2,fun j hj=>(k3 j hj).trans (h3 j hj)⟩
theorem Cu: ∀{n:Nat} {l l':List Value},(∀j,j<n->l'[j]?=l[j]?)->dA n l'=dA n l
 |0,_,_,_=>rfl
 |n+1,[],l',h=>by
  have:=h 0 (by omega)
  cases l' with
  |nil=>rfl
  |cons x l'=>simp at this
 |n+1,v::l,l',h=>by
  have h0:=h 0 (by omega)
  cases l' with
  |nil=>simp at h0
  |cons x l'=>
   simp at h0;subst h0
   simp only [dA]
   rw[Cu (n:=n) (l:=l) (l':=l') fun j hj=>by have:=h (j+1) (by omega);simpa using this]
theorem Lk{t:TypeId}{off:Nat}{b b':aW}(h: ∀j,j<Bq P t->b'.cs[off+j]?=b.cs[off+j]?):Iv P t off b'=Iv P t off b:=by
 unfold Iv
 unfold Bq at h
 cases hd:P.underlying t with
 |none=>rfl
 |some d=>
  rw[hd] at h
  simp only at h⊢
  cases hq:dX d<;>simp only [hq,cond_true,cond_false] at h⊢
  ·have:=h 0 (by omega);simpa using this
  ·cases hi:P.info? t with
   |none=>rfl
   |some i=>
    rw[hi] at h
    simp only at h⊢
    rw[Cu (n:=i.size) (l:=b.cs.drop off) (l':=b'.cs.drop off) fun j hj=>by rw[List.getElem?_drop,List.getElem?_drop];exact h j hj]
theorem vG: ∀{cs:List Value} {k j:Nat} {l:List Value},(j<k\/k+l.length<=j)->(splice cs k l)[j]?=cs[j]?
 |cs,k,j,[],_=>by rw[gZ]
 | [],k,j,v::l,_=>by cases k<;>rfl
 |c::cs,0,j,v::l,h=>by
  simp only [List.length_cons] at h
  cases j with
  |zero=>omega
  |succ j=>
   simp only [splice,List.getElem?_cons_succ]
   exact vG (by omega)
 |c::cs,k+1,j,v::l,h=>by
  simp only [List.length_cons] at h
  cases j with
  |zero=>rfl
  |succ j=>
   simp only [splice,List.getElem?_cons_succ]
   exact vG (by simp only [List.length_cons];omega)
def Hi(P:Program)(S:TypeId->Addr->Prop)(st:Nat->St)(N:Nat):Prop:= ∀t a,S t a->a.block<(st 0).M.next/\ ∀k k',k<=N->k'<=N->iY a.off (Bq P t) ((st k).M.blks.get a.block) ((st k').M.blks.get a.block)
theorem Hi.of_block{S0:List Nat}(h: ∀b∈S0,b<(st 0).M.next/\ ∀k,k<=N->(st k).M.blks.get b=(st 0).M.blks.get b):Hi P (fun _ a=>a.block∈S0) st N:=fun t a ha=>
 ⟨(h _ ha).1,fun k k' hk hk'=>by rw[(h _ ha).2 k hk,(h _ ha).2 k' hk'];exact iY.refl _ _ _⟩
theorem Inv.step{L0:List Nat}(hNs:N<=ops.size)(hiN:i<N)(hN:dU P)(hC:jH P GL B callF)(hA:bO callF)(hlex:mK ops)(R:rJ P GL callF ops (bD ops.toList []) h0 S st ld N)(hglob: ∀g∈GL,g<(st 0).M.next)
  (hLall:(st N).M.log=L0++(st 0).M.log) (hsubL: ∀t∈L0,t∈Lall) (hSt:Hi P S st N)
  (I:Inv P GL B ops h0 st ld N (Mv P GL B ops h0 st ld N) Lall φ0 w0 a0 listed φ a w) (hi:i∈Region.ready .any ops listed) {Q:Exit->Act->World->Prop} {K:Act->World->Prop}
  (hK: ∀φ' a' w',Inv P GL B ops h0 st ld N (Mv P GL B ops h0 st ld N) Lall φ0 w0 a0 (listed.setIfInBounds i true) φ' a' w'->K a' w'):wpOpIn (RO ro) 0 P ops Q i K a w:=by
 obtain⟨a9,o,ho,hedges⟩:=mem_ready.1 hi
 have hlt:i<ops.size:=(Array.getElem?_eq_some_iff.1 ho).1
 have hls:i<listed.size:=by rw[I.size];exact hlt
 have hun:listed.getD i false=false:=by simpa [hls] using a9
 obtain⟨m,V⟩:=I.mem
 have hg:zG GL φ:=V.glob
 have hT:fW φ (qA (st i).T (o.looksAt ops)) (st 0).n a.tmps:=⟨I.tsize,fun t v hv=>by
  rw[kV] at hv
  by_cases hm:t∈o.looksAt ops
  ·rw[if_pos hm] at hv
   exact I.slots t v (I.value hNs (Nat.le_of_lt hiN) hlex R ho hun hedges hm hv)
  ·rw[if_neg hm] at hv;cases hv⟩
 have hops: ∀x∈o.op.operands,ev GL (st i).T x=ev GL (qA (st i).T (o.looksAt ops)) x:=fun x hx=>by
  cases x with
  |tmp t=>
   have:t∈o.looksAt ops:=List.mem_append_left _ (List.mem_filterMap.2 ⟨.tmp t,by simpa using hx,rfl⟩)
   simp only [ev,kV,if_pos this]
  |_=>rfl
 have hgd:eK ops (st i).T o=eK ops (qA (st i).T (o.looksAt ops)) o:=Dg fun g d hgq hd=>by
  obtain⟨g1,g2⟩:=g
  have:d∈o.looksAt ops:=List.mem_append_right _ (by rw[hgq];simp only;rw[hd];simp)
  rw[kV,if_pos this]
 obtain⟨hh,o',deps,ho',hb,hcase⟩:=R.steps i hiN
 rw[ho] at ho';cases ho'
 have hn:=R.nn i (by omega)
 unfold wpOpIn
 simp only [ho]
 have empty:ld i=0-> ¬ ∃id,(st i).M.next<=id/\id<(st (i+1)).M.next:=fun h0 ⟨id,h1,h2⟩=>R.quiet hA hiN h1 h2 h0
 rcases hcase with⟨hw,hput,hz⟩|⟨hw,r,M',H,hop,hput,h1,h2,h3,h4⟩|⟨hw,t,x,ad,v,H,hol,hev,hload,hput,hz,hbS⟩
 ·rw[hgd] at hw
  rw[gS hT hw]
  simp only [Bool.false_eq_true,if_false]
  refine⟨fun f _=>Dz _ f,?_⟩
  refine hK φ _ w (I.next hNs hiN hA hlex R ho hun hedges (φ':=φ) (w':=w) (Li:= []) (dC.le_refl φ) ⟨m,Iz V hls hz⟩ (fun _ _=>rfl) (Fr.refl _ _ _ _) (fun t ht=>by cases ht) (fun id e a b=>absurd ⟨id,a,b⟩ (empty hz)) fun d hd=> ?_)
  obtain⟨q1,q2⟩:=(mS hput).2.2 d hd
  exact⟨by rw[<-hn];exact q1,_,q2,bA.refl_flat φ undef rfl⟩
 ·rw[hgd] at hw
  rw[gS hT hw]
  simp only [if_true]
  by_cases hz:ld i=0
  ·rw[hz] at hop
   have h0':=Hu hop
   rw[uG hops] at h0'
   obtain⟨v,rfl,v',b5,b6⟩:=uH (w:=w) hg hT h0'
   refine Mf b5 ?_
   refine hK φ _ w (I.next hNs hiN hA hlex R ho hun hedges (φ':=φ) (w':=w) (Li:= []) (dC.le_refl φ) ⟨m,Iz V hls hz⟩ (fun _ _=>rfl) (Fr.refl _ _ _ _) (fun t ht=>by cases ht) (fun id e a b=>absurd ⟨id,a,b⟩ (empty hz)) fun d hd=> ?_)
   obtain⟨q1,q2⟩:=(mS hput).2.2 d hd
   exact⟨by rw[<-hn];exact q1,_,q2,b6⟩
  ·have hdeps:=nI hlex I.closed (i+1) i (by omega) o ho hedges deps hb
   have hdown: ∀j,j<N->listed.getD j false=true-> ∀d,(bD ops.toList [])[j]?=some d-> ∀k,d.testBit k=true->listed.getD k false=true:=fun j hj hD d hd=>
    nI hlex I.closed (j+1) j (by omega) (ops[j]'(by omega)) (by simp [show j<ops.size by omega]) (I.closed j _ hD (by simp [show j<ops.size by omega])) d hd
   have hM:(st (i+1)).M={M' with hide:=h0}:=eV hput
   have hMn:(st (i+1)).M.next=M'.next:=by rw[hM]
   have hMl:(st (i+1)).M.log=M'.log:=by rw[hM]
   have hGi: ∀g∈GL,g<(st i).M.next:=fun g hg=>Nat.lt_of_lt_of_le (hglob g hg) (R.mono hA 0 i (by omega) (by omega))
   obtain⟨_,L0',habs,b7⟩:=kZ hA hop
   have exec: ∀(Mx Mx':aA),jG P GL callF o (st i).T Mx=some (ld i,r,Mx')->gI P GL B φ Mx w->Mx.next=(st i).M.next->Mx'.next=(st (i+1)).M.next->Mx.log=(st i).M.log->Mx'.log=(st (i+1)).M.log->
     (∀L φ' w',(ld i<=1->L= [])->φ.le φ'->Mx'.log=L++Mx.log->Post P GL B φ φ' Mx Mx' L w w'-> ∃m',fY P GL B ops h0 st ld N (listed.setIfInBounds i true) φ' w' m')->o.wpIn (RO ro) 0 P a w K Q:=fun Mx Mx' hopx hR e1 e2 e3 e4 hmm=>by
    have hG:iX φ Mx Mx':=fun id a1 a2=>I.fresh i hiN hun id (by rw[<-e1];exact a1) (by rw[<-e2];exact a2)
    obtain⟨_,Lx,habsx,hLx⟩:=kZ hA hopx
    rw[sO hops] at hopx
    refine Ag hN hC hR hG hT hopx fun L φ' v' w' hlog hp hr=> ?_
    have hLL:L=Lx:=by
     have:=habsx.log
     rw[hlog] at this
     exact List.append_cancel_right this
    have hle:=hp.le hG
    refine hK φ' _ w' (I.next hNs hiN hA hlex R ho hun hedges hle (hmm L φ' w' (fun h=>by rw[hLL];exact hLx h) hle hlog hp) (fun id hid=>hp.ext id ?_) hp.fr ?_ (fun id e a b he=>hp.newb id e (by rw[e1];exact a) (by rw[e2];exact b) he) fun d hd=> ?_)
    ·rw[e1,e2];omega
    ·obtain⟨A,hAq,_⟩:=R.log hA (i+1) N (by omega) (Nat.le_refl _)
     obtain⟨C,hCq,_⟩:=R.log hA 0 i (by omega) (by omega)
     have a7:(st (i+1)).M.log=L++(st i).M.log:=by rw[<-e4,<-e3];exact hlog
     rw[a7,hCq,hLall,<-List.append_assoc,<-List.append_assoc] at hAq
     have:=List.append_cancel_right hAq
     intro t ht
     exact hsubL t (by rw[this];simp [ht])
    ·obtain⟨p1,p2⟩:=(mS hput).2.2 d hd
     refine⟨by rw[<-hn];exact p1,_,p2,?_⟩
     cases r with
     |val v=>exact hr
     |skip=>have:v'=undef:=hr
            rw[this];exact bA.refl_flat φ' undef rfl
   by_cases hMk:zZ ops ld i
   ·--it only makes
    have hmo:zM o=true:=by have:=hMk.2.1;rw[Gr ho] at this;exact this
    obtain⟨b3,b0,hMb,hany⟩:=Wn hmo hop
    have a5:=hany (pR (st i).M h0) rfl
    rw[<-b3] at a5
    have a8:(st (i+1)).M.blks=(st i).M.blks.set (st i).M.next (some b0):=by rw[hM,hMb];rfl
    have b1:(st (i+1)).M.next=(st i).M.next+1:=by rw[hM,hMb];rfl
    refine exec _ _ a5 (Nw V hGi) rfl b1.symm rfl (by rw[hM,hMb];rfl) fun L φ' w' hL hle hlog hp=> ?_
    have:=hL (by rw[hMk.2.2];exact Nat.le_refl _)
    subst this
    exact⟨m,Qm hA R V hiN hls hun hMk hdown hle a8 b1 hp⟩
   ·have q1:=Wl V hiN ho hMk hdeps h4 hz
    have q2:=Wm R V hMk hun hdown hz
    have hts:=Ol (st:=st) (ld:=ld) (h0:=h0) (i:=i) hdeps h1
    have hvv:=Ot hA R V (Nat.le_of_lt hiN) q1 (fun k a1 a2=>by
     by_cases hki:k=i
     ·subst hki;exact V.loud k a2 hun
     ·exact q2 k (by omega) a2)
    rcases Nat.lt_or_ge 1 (ld i) with b8|b2
    ·have hmi:m<=i:=by
      rcases Nat.lt_or_ge i m with h|h
      ·have:=V.loud i h hun;omega
      ·exact h
     by_cases hst:fP o=true
     ·--a store:it is done on all that is seen
      obtain⟨t,x,y,ad,v,hos,hx,hy,hs,b4,rfl⟩:=Hb hst hop
      obtain⟨b,b',hgb,hM',hany⟩:=jK hs
      have hgv:(VS st ld h0 i listed).get ad.block=some b:=xO (hts _ _ (fX hgb)) (xN hgb)
      have a5:jG P GL callF o (st i).T (VS st ld h0 i listed)=some (ld i,.skip,(VS st ld h0 i listed).put ad.block (some b')):=by
       rw[b4];exact xZ hos hx hy (hany _ hgv)
      refine exec _ _ a5 (V.sub hvv hGi) rfl (by rw[hM,hM'];rfl) rfl (by rw[hM,hM'];rfl) fun L φ' w' _ hle hlog hp=>⟨i+1,Iy hA R V hiN hls hun ho hdown hdeps h4 (by omega) hle hvv (by rw[hM,hM'];rfl) hlog (fun hlo=>Iw hlo a5) (fun id c hc=> ?_) hp⟩
      obtain⟨a1,a2,a3,a4⟩:=fL.1 hc
      have hvb:=bR.1 hgv
      rw[kI hvb.1 hvb.2.1]
      have hblk:(st (i+1)).M.blks=(st i).M.blks.set ad.block (some b'):=by rw[hM,hM'];rfl
      rw[hblk,Tr.get_set] at a4
      by_cases hid:id=ad.block
      ·rw[if_pos hid] at a4⊢;exact a4
      ·rw[if_neg hid] at a4⊢
       refine fL.2 ⟨by rw[hM,hM'] at a1;exact a1,?_,a3,a4⟩
       rintro⟨j,c1,c2,c3,c4⟩
       exact a2 ⟨j,by omega,by rw[hZ hls,c2];simp [show j≠i by omega],c3,c4⟩
     ·have hH:H= []:=by
       rcases h2 (by omega) with h|h
       ·exact h
       ·exact absurd h.2 hst
      subst hH
      refine exec _ _ hop (V.sub (fun id b hb=>hvv id b (hts id b hb)) hGi) rfl hMn.symm rfl hMl.symm fun L φ' w' _ hle hlog hp=>⟨i+1,Iy hA R V hiN hls hun ho hdown hdeps h4 (by omega) hle (fun id b hb=>hvv id b (hts id b hb)) hMn.symm hlog (fun hlo=>Iw hlo hop) (fun id c hc=> ?_) hp⟩
      obtain⟨a1,a2,a3,a4⟩:=fL.1 hc
      rw[bK,habs.hide,<-hMn]
      refine⟨a1,by simpa using a3,?_⟩
      rw[hM] at a4;exact a4
    ·refine exec _ _ hop (V.sub (fun id b hb=>hvv id b (hts id b hb)) hGi) rfl hMn.symm rfl hMl.symm fun L φ' w' hL hle hlog hp=> ?_
     have:=hL b2
     subst this
     exact Nx hA R V hiN hls hun h3 b2 q1 q2 hle hM habs.hide hp
 ·rw[hgd] at hw
  rw[gS hT hw]
  simp only [if_true]
  obtain⟨a8,hbk⟩:=hSt _ _ hbS
  have a6:aX P t ad (VS st ld h0 m listed)=some v:=by
   obtain⟨b,hb,hbv⟩:=yE.1 hload
   obtain⟨a1,a2,a3,a4⟩:=bR.1 hb
   simp only [gW,Bool.or_eq_false_iff] at a2
   obtain⟨b',c1,c2,c3⟩:=hbk i m (by omega) V.le b a3
   refine yE.2 ⟨b',xO (fL.2 ⟨Nat.lt_of_lt_of_le a8 (R.mono hA 0 m (by omega) V.le),?_,a2.2,c1⟩) (by rw[c2];exact a4),by rw[Lk c3];exact hbv⟩
   rintro⟨j,d1,_,_,d4,_⟩
   have:=R.mono hA 0 j (by omega) (by have:=V.le;omega)
   omega
  have a5:jG P GL callF o (st i).T (VS st ld h0 m listed)=some (1,.val v,VS st ld h0 m listed):=Qi hol hev a6
  rw[sO hops] at a5
  have hGm: ∀g∈GL,g<(VS st ld h0 m listed).next:=fun g hg=>Nat.lt_of_lt_of_le (hglob g hg) (R.mono hA 0 m (Nat.zero_le _) V.le)
  refine Ag hN hC (V.sub (fun _ _ h=> .inl h) hGm) (fun id a1 a2=>absurd a1 (by omega)) hT a5 fun L φ' v' w' hlog hp hr=> ?_
  have hL:L= []:=List.append_cancel_right (bs:=(VS st ld h0 m listed).log) (by rw[<-hlog];rfl)
  subst hL
  have hφ:φ'=φ:=funext fun id=>hp.ext id (by omega)
  subst hφ
  have hheap: ∀k,k<w.heap.size->w'.heap[k]?=w.heap[k]?:=fun k hk=>by
   rcases hp.fr.block k hk with h|⟨_,t,ht,_⟩
   ·exact h
   ·cases ht
  have V':fY P GL B ops h0 st ld N (listed.setIfInBounds i true) φ' w' m:=Lc (i:=i) V (dC.le_refl φ') hp.rel (fun _ _=>rfl) (fun id e hin _=>absurd ⟨id,hin.1,hin.2⟩ (empty hz)) hheap V.le (Hp hls hz V.all) (Bs hls V.loud)
   (fun id b hb=> .inr ⟨(qJ hls hz id b).1 hb,fun hin=>empty hz ⟨id,hin.1,hin.2⟩⟩) (fun id b hb=> .inr ⟨(qJ hls hz id b).2 hb,fun hin=>empty hz ⟨id,hin.1,hin.2⟩⟩)
  refine hK φ' _ w' (I.next hNs hiN hA hlex R ho hun hedges (φ':=φ') (w':=w') (Li:= []) (dC.le_refl φ') ⟨m,V'⟩ (fun _ _=>rfl) hp.fr (fun t ht=>by cases ht) (fun id e a b=>absurd ⟨id,a,b⟩ (empty hz)) fun d hd=> ?_)
  obtain⟨q1,q2⟩:=(mS hput).2.2 d hd
  exact⟨by rw[<-hn];exact q1,_,q2,hr⟩
end step
theorem vL(hlex:mK ops){listed:Array Bool}(hs:listed.size=ops.size)(h:Region.ready .any ops listed= []): ∀(n j:Nat),j<n->j<ops.size->listed.getD j false=true
 |0,j,hn,_=>absurd hn (Nat.not_lt_zero _)
 |n+1,j,hn,hj=>by
  cases hd:listed.getD j false
  ·exfalso
   have hjs:j<listed.size:=by omega
   have hr:j∈Region.ready .any ops listed:=mem_ready.2 ⟨by simpa [hjs] using hd,ops[j],by simp [hj],fun e he hb=>by
    have hlt:=hlex.back j ops[j] (by simp [hj]) e he hb
    exact vL hlex hs h n e.on (by omega) (by omega)⟩
   rw[h] at hr;cases hr
  ·rfl
theorem xI{l:List Bool}{i:Nat}(hi:l[i]?=some false):(l.set i true).count false+1=l.count false:=by
 induction l generalizing i with
 |nil=>simp at hi
 |cons b l ih=>
  cases i with
  |zero=>simp at hi;subst hi;simp
  |succ i=>simp at hi;simp [List.count_cons,<-ih hi];omega
theorem Md(hN:dU P)(hm:P.follows .mixedOrders=true)(hC:jH P GL B callF)(hA:bO callF){id:Nat}{s s':St}{φ:dC}{a:Act}{w:World}(hl:kA ops=true)
  (hst0:st 0=s) (hstN:st ops.size=s') (R:rJ P GL callF ops (bD ops.toList []) s.M.hide S st ld ops.size) (hSt:Hi P S st ops.size)
  (hR:gI P GL B φ s.M w) (hG:iX φ s.M s'.M) (hT:fW φ s.T s.n a.tmps) {Q:Exit->Act->World->Prop}
  (hk: ∀L φ' a' w',s'.M.log=L++s.M.log->Post P GL B φ φ' s.M s'.M L w w'->fW φ' s'.T s'.n a'.tmps->a'.defers=a.defers->Q .normal a' w'):(Code.region id ops true).wpIn (RO ro) 0 P Q a w:=by
 have hlex:=yR hl
 obtain⟨Lall,hLall,hLb⟩:=R.log hA 0 ops.size (Nat.zero_le _) (Nat.le_refl _)
 have hglob: ∀g∈GL,g<(st 0).M.next:=fun g hg=>by rw[hst0];exact(hR.glob g hg).1
 have hsame:mL w {w with drawn:=w.drawn+1}:=⟨rfl,rfl,rfl,rfl⟩
 --at the end
 have fin: ∀(listed:Array Bool) φ1 a1 w1,(∀j,j<ops.size->listed.getD j false=true)->Inv P GL B ops s.M.hide st ld ops.size (Mv P GL B ops s.M.hide st ld ops.size) Lall φ {w with drawn:=w.drawn+1} a listed φ1 a1 w1->Q .normal a1 w1:=fun listed φ1 a1 w1 hall I=>by
  obtain⟨m,V⟩:=I.mem
  have q1: ∀k,m<=k->k<ops.size->ld k<=1:=fun k h1 h2=>by
   rcases Nat.eq_zero_or_pos (ld k) with hz|hz
   ·omega
   ·rcases V.all k h2 (hall k h2) (by omega) with h|h
    ·omega
    ·rw[h.2.2];exact Nat.le_refl _
  have hrel:gI P GL B φ1 s'.M w1:=by
   rw[<-hstN]
   refine V.sub (fun id b hb=>Ot hA R V (Nat.le_refl _) q1 (fun k h1 h2=>by have:=V.le;omega) id b (fL.2 ?_)) fun g hg=>Nat.lt_of_lt_of_le (hglob g hg) (R.mono hA 0 ops.size (Nat.zero_le _) (Nat.le_refl _))
   obtain⟨b1,b2,b3⟩:=bK.1 hb
   refine⟨b1,?_,?_,b3⟩
   ·rintro⟨j,c1,c2,_⟩
    rw[hall j c1] at c2;cases c2
   ·rw[<-R.hide ops.size (Nat.le_refl _)];exact b2
  have hn:=R.nn ops.size (Nat.le_refl _)
  refine hk Lall φ1 a1 w1 (by rw[<-hstN,hLall,hst0]) ⟨fun id hid=> ?_,?_,hrel,⟨I.fr.os,I.fr.tape,I.fr.output,I.fr.size,I.fr.block⟩,fun id e h1 h2 he=> ?_,?_⟩ ⟨?_,fun t v hv=> ?_⟩ I.defers
  ·exact I.ext id (by rw[hst0,hstN];exact hid)
  ·rw[<-hst0,<-hstN];exact R.mono hA 0 ops.size (Nat.zero_le _) (Nat.le_refl _)
  ·exact I.newb id e (by rw[hst0];exact h1) (by rw[hstN];exact h2) he
  ·rw[<-hstN];exact hLb
  ·rw[I.tsize,<-hn,hstN]
  ·refine I.slots t v ?_
   rw[<-hstN] at hv
   rcases R.last t ops.size (Nat.le_refl _) with⟨j,j1,j2,j3,j4⟩|⟨j1,j2⟩
   ·exact .inl ⟨j,j1,hall j j1,j2,fun k hk _ hd=>by
     rcases Nat.lt_or_ge j k with h|h
     ·exact absurd hd (j3 k h hk)
     ·exact h,by rw[<-j4];exact hv⟩
   ·exact .inr ⟨fun k hk _=>j1 k hk,by rw[<-j2];exact hv⟩
 --on the way
 have go: ∀(fuel:Nat) (listed:Array Bool) φ1 a1 w1,listed.toList.count false<=fuel->Inv P GL B ops s.M.hide st ld ops.size (Mv P GL B ops s.M.hide st ld ops.size) Lall φ {w with drawn:=w.drawn+1} a listed φ1 a1 w1->wpAnyIn (RO ro) 0 P .any ops Q fuel listed a1 w1:=by
  intro fuel
  induction fuel with
  |zero=>
   intro listed φ1 a1 w1 hc I
   have hall: ∀j,j<ops.size->listed.getD j false=true:=fun j hj=>by
    have hjs:j<listed.size:=by rw[I.size];exact hj
    have h0:listed.toList.count false=0:=by omega
    have:=List.count_eq_zero.1 h0
    cases hb:listed[j]
    ·exact absurd (by rw[<-hb];simp) this
    ·simp [hjs,hb]
   refine⟨?_,fin listed φ1 a1 w1 hall I⟩
   rw[List.eq_nil_iff_forall_not_mem]
   intro j hj
   obtain⟨h1,o,ho,_⟩:=mem_ready.1 hj
   have hj':=(Array.getElem?_eq_some_iff.1 ho).1
   have hjs:j<listed.size:=by rw[I.size];exact hj'
   have h2:=hall j hj'
   simp [hjs] at h1 h2
   rw[h1] at h2;cases h2
  |succ fuel ih=>
   intro listed φ1 a1 w1 hc I
   refine⟨fun hr=>fin listed φ1 a1 w1 (fun j hj=>vL hlex I.size hr (j+1) j (by omega) hj) I,fun i hi=> ?_⟩
   refine I.step (Nat.le_refl _) (by obtain⟨_,o,ho,_⟩:=mem_ready.1 hi;exact(Array.getElem?_eq_some_iff.1 ho).1) hN hC hA hlex R hglob hLall (fun t ht=>ht) hSt hi fun φ2 a2 w2 I2=>ih _ φ2 a2 w2 ?_ I2
   obtain⟨h1,o,ho,_⟩:=mem_ready.1 hi
   have hi':=(Array.getElem?_eq_some_iff.1 ho).1
   have his:i<listed.size:=by rw[I.size];exact hi'
   have:=xI (l:=listed.toList) (i:=i) (by simpa [his] using h1)
   simp only [Array.toList_setIfInBounds]
   omega
 refine wpIn_region_any hm (go ops.size (Array.replicate ops.size false) φ a _ (by simp) ?_)
 have hun: ∀j,(Array.replicate ops.size false).getD j false=false:=fun j=>by
  by_cases hj:j<ops.size<;>simp [hj]
 refine⟨by simp,fun k o hD=>(by rw[hun] at hD;cases hD),by rw[hst0];exact hT.1,fun t v hs=> ?_,⟨0,Es (st:=st) (ld:=ld) (h0:=s.M.hide) (N:=ops.size) hun ?_⟩,fun j hj _ id h1 h2=> ?_,fun _ _=>rfl,Fr.refl _ _ _ _,fun id e h1 h2 he=> ?_,rfl⟩
 ·rcases hs with⟨j,_,hD,_⟩|⟨_,hv⟩
  ·rw[hun] at hD;cases hD
  ·rw[hst0] at hv;exact hT.2 t v hv
 ·refine(hR.same hsame).sub (fun id b hb=> ?_) hglob
  obtain⟨a1,a2,a3,a4⟩:=fL.1 hb
  rw[hst0] at a1 a4
  exact bK.2 ⟨a1,a3,a4⟩
 ·refine hG id ?_ ?_
  ·rw[<-hst0];exact Nat.le_trans (R.mono hA 0 j (Nat.zero_le _) (by omega)) h1
  ·rw[<-hstN];exact Nat.lt_of_lt_of_le h2 (R.mono hA (j+1) ops.size (by omega) (Nat.le_refl _))
 ·rw[hG id (by rw[<-hst0];exact h1) (by rw[<-hstN];exact h2)] at he;cases he
theorem Ox(hN:dU P)(hm:P.follows .mixedOrders=true)(hC:jH P GL B callF)(hA:bO callF){id:Nat}{s s':St}{φ:dC}{a:Act}{w:World}(hl:kA ops=true)
  (h:oS P GL callF ops (bD ops.toList []) ops.toList 0 [] s=some s') (hR:gI P GL B φ s.M w) (hG:iX φ s.M s'.M) (hT:fW φ s.T s.n a.tmps) {Q:Exit->Act->World->Prop}
  (hk: ∀L φ' a' w',s'.M.log=L++s.M.log->Post P GL B φ φ' s.M s'.M L w w'->fW φ' s'.T s'.n a'.tmps->a'.defers=a.defers->Q .normal a' w'):(Code.region id ops true).wpIn (RO ro) 0 P Q a w:=by
 obtain⟨st,ld,e1,_,e3,e4⟩:=rP (P:=P) (GL:=GL) (ops:=ops) (S:=fun _ _=>False) hA ops.toList 0 [] s s' (fun _=>s) (fun _=>0) (fun j=>by simp) h rfl (fun d hd=>by cases hd) (fun m hm=>absurd hm (Nat.not_lt_zero _))
 have a0:st 0=s:=e1 0 (Nat.le_refl _)
 exact Md hN hm hC hA hl a0 (by simpa using e3) ⟨fun j hj=>e4 j (Nat.zero_le _) (by simpa using hj),by rw[a0]⟩ (fun t a h=>h.elim) hR hG hT hk
theorem rJ.still(hA:bO callF)(R:rJ P GL callF ops before h0 S st ld N){b:Nat}(hb:b<(st 0).M.next)(hn:b∉(st N).M.log): ∀k,k<=N->(st k).M.blks.get b=(st 0).M.blks.get b
 |0,_=>rfl
 |k+1,hk=>by
  rw[<-R.still hA hb hn k (by omega)]
  obtain⟨L,hL,_⟩:=R.abs hA k hk
  refine hL.keep b (Nat.lt_of_lt_of_le hb (R.mono hA 0 k (by omega) (by omega))) fun hm=>hn ?_
  obtain⟨A,hAq,_⟩:=R.log hA (k+1) N hk (Nat.le_refl _)
  rw[hAq,hL.log]
  simp [hm]
theorem yG{off n b:Nat}: ∀{W:List (Nat×Nat×Nat)},xA off n b W=true-> ∀e∈W,e.1≠b\/e.2.1+e.2.2<=off\/off+n<=e.2.1
 | [],_,_,h=>by cases h
 |(b',o',n')::W,h,e,he=>by
  simp only [xA,Bool.and_eq_true,Bool.or_eq_true,Bool.not_eq_true',Nat.ble_eq] at h
  rcases List.mem_cons.1 he with rfl|he
  ·rcases h.1 with(h|h)|h
   ·exact .inl (Nat.ne_of_beq_eq_false h)
   ·exact .inr (.inl h)
   ·exact .inr (.inr h)
  ·exact yG h.2 e he
theorem yF{W:List (Nat×Nat×Nat)}: ∀{S:List (TypeId×Addr)},wZ P S W=true-> ∀t a,(t,a)∈S->xA a.off (Bq P t) a.block W=true
 | [],_,_,_,h=>by cases h
 |(t',a')::S,h,t,a,ht=>by
  simp only [wZ,Bool.and_eq_true] at h
  rcases List.mem_cons.1 ht with h1|h1
  ·cases h1;exact h.1
  ·exact yF h.2 t a h1
theorem rJ.at_step(hA:bO callF)(R:rJ P GL callF ops before h0 S st ld N){W:List (Nat×Nat×Nat)}{j:Nat}(hj:j<N)(hw:ld j<=1\/ ∃o,ops[j]?=some o/\fP o=true/\ ∀e∈wO GL o (st j).T,e∈W)
  {b off n:Nat} (hb:b<(st j).M.next) (hap:xA off n b W=true):iY off n ((st j).M.blks.get b) ((st (j+1)).M.blks.get b)/\iY off n ((st (j+1)).M.blks.get b) ((st j).M.blks.get b):=by
 have same:(st (j+1)).M.blks.get b=(st j).M.blks.get b->iY off n ((st j).M.blks.get b) ((st (j+1)).M.blks.get b)/\iY off n ((st (j+1)).M.blks.get b) ((st j).M.blks.get b):=fun h=>by
  rw[h];exact⟨iY.refl _ _ _,iY.refl _ _ _⟩
 obtain⟨L,hL,hq,_⟩:=R.abs hA j hj
 rcases Nat.lt_or_ge 1 (ld j) with hl|hl
 ·obtain⟨o,ho,hst,hfp⟩:=hw.resolve_left (by omega)
  obtain⟨_,o',d,ho',_,hcase⟩:=R.steps j hj
  rw[ho] at ho';cases ho'
  rcases hcase with⟨_,_,hz⟩|⟨_,r,M',H,hop,hput,_⟩|⟨_,_,_,_,_,_,_,_,_,_,hz,_⟩
  ·omega
  ·obtain⟨t,x,y,a,v,hos,hx,hy,hs,_,_⟩:=Hb hst hop
   have hMb:(st (j+1)).M.blks=M'.blks:=by rw[eV hput]
   by_cases hab:b=a.block
   ·have hin:(a.block,a.off,v.cells.toList.length)∈W:=hfp _ (by unfold wO;rw[hos];simp only [hx,hy];simp)
    have hfar:=(yG hap _ hin).resolve_left (fun h=>h hab.symm)
    unfold eC at hs
    split at hs<;>(try cases hs;done)
    rename_i b0 i hg hi
    obtain⟨_,hs⟩:=rU hs
    cases hs
    have g1:(st j).M.blks.get b=some b0:=by rw[hab];exact(bR.1 hg).2.2.1
    have g2:(st (j+1)).M.blks.get b=some {b0 with cs:=splice b0.cs a.off v.cells.toList}:=by
     rw[hMb,hab]
     show(Tr.set _ _ _).get _=_
     rw[Tr.get_set,if_pos rfl]
    have hcell: ∀k,k<n->(splice b0.cs a.off v.cells.toList)[off+k]?=b0.cs[off+k]?:=fun k hk=>vG (by simp only at hfar;omega)
    rw[g1,g2]
    exact⟨fun c hc=>⟨_,rfl,by cases hc;rfl,fun k hk=>by cases hc;exact hcell k hk⟩,fun c hc=>⟨_,rfl,by cases hc;rfl,fun k hk=>by cases hc;exact(hcell k hk).symm⟩⟩
   ·refine same ?_
    obtain⟨b1,b',_,hM',_⟩:=jK hs
    rw[hMb,hM']
    show(Tr.set _ _ _).get _=_
    rw[Tr.get_set,if_neg hab]
  ·omega
 ·have hnil:=hq hl
  subst hnil
  exact same (hL.keep b hb (by simp))
theorem Kh(hN:dU P)(hm:P.follows .mixedOrders=true)(hC:jH P GL B callF)(hA:bO callF){id:Nat}{sl:List Nat}{s s':St}{φ:dC}{a:Act}{w:World}(hl:kA ops=true)
  (h:vK P GL callF ops sl s=some s') (hR:gI P GL B φ s.M w) (hG:iX φ s.M s'.M) (hT:fW φ s.T s.n a.tmps) {Q:Exit->Act->World->Prop}
  (hk: ∀L φ' a' w',s'.M.log=L++s.M.log->Post P GL B φ φ' s.M s'.M L w w'->fW φ' s'.T s'.n a'.tmps->a'.defers=a.defers->Q .normal a' w'):(Code.region id ops true).wpIn (RO ro) 0 P Q a w:=by
 unfold vK at h
 split at h
 ·rename_i s1 S W h1
  cases hp:wZ P S W<;>simp only [hp,cond_true,cond_false] at h
  ·cases h
  ·simp only [Option.some.injEq] at h
   subst h
   obtain⟨g1,_,_,st,ld,e1,_,e3,e4⟩:=mW (P:=P) (GL:=GL) (ops:=ops) hA ops.toList 0 [] [] [] (eR s) s1 (fun _=>eR s) (fun _=>0) (fun j _=>by simp) h1 rfl (fun d hd=>by cases hd) (fun m hm=>absurd hm (Nat.not_lt_zero _))
   have a0:st 0=eR s:=e1 0 (Nat.le_refl _)
   have hstN:st ops.size=s1:=by simpa using e3
   have R:rJ P GL callF ops (bD ops.toList []) (eR s).M.hide (fun t a=>(t,a)∈S) st ld ops.size:=⟨fun j hj=>(e4 j (Nat.zero_le _) (by simpa using hj)).1,by rw[a0]⟩
   have hstay:Hi P (fun t a=>(t,a)∈S) st ops.size:=fun t a ha=>by
    have a1:a.block<(st 0).M.next:=by
     rw[a0]
     rcases g1 _ ha with h|h
     ·cases h
     ·exact h
    have hap:=yF hp t a ha
    have fwd: ∀k,k<=ops.size->iY a.off (Bq P t) ((st 0).M.blks.get a.block) ((st k).M.blks.get a.block)/\iY a.off (Bq P t) ((st k).M.blks.get a.block) ((st 0).M.blks.get a.block):=by
     intro k
     induction k with
     |zero=>intro _;exact⟨iY.refl _ _ _,iY.refl _ _ _⟩
     |succ k ih=>
      intro hk
      obtain⟨i1,i2⟩:=ih (by omega)
      obtain⟨j1,j2⟩:=R.at_step hA (j:=k) (by omega) (e4 k (Nat.zero_le _) (by simp;omega)).2 (Nat.lt_of_lt_of_le a1 (R.mono hA 0 k (Nat.zero_le _) (by omega))) hap
      exact⟨i1.trans j1,j2.trans i2⟩
    exact⟨a1,fun k k' hk hk'=>(fwd k hk).2.trans (fwd k' hk').1⟩
   refine Md (s:=eR s) (s':=s1) hN hm hC hA hl a0 hstN R hstay (gI.congr (M1:=s.M) (M2:=(eR s).M) (fun _=>rfl) rfl hR) hG hT fun L φ' a' w' q1 q2 q3 q4=> ?_
   refine hk L φ' a' w' ?_ (Post.congr (M1:=(eR s).M) (M2:=s.M) (M1':=s1.M) rfl (fun _=>rfl) rfl q2) q3 q4
   show s1.M.log++s.M.log=L++s.M.log
   rw[q1]
   show(L++ [])++s.M.log=_
   simp
 ·cases h
theorem Kg(hN:dU P)(hm:P.follows .mixedOrders=true)(hC:jH P GL B callF)(hA:bO callF){id:Nat}{s s':St}{φ:dC}{a:Act}{w:World}(hl:kA ops=true)
  (h:qM P GL callF ops s=some s') (hR:gI P GL B φ s.M w) (hG:iX φ s.M s'.M) (hT:fW φ s.T s.n a.tmps) {Q:Exit->Act->World->Prop}
  (hk: ∀L φ' a' w',s'.M.log=L++s.M.log->Post P GL B φ φ' s.M s'.M L w w'->fW φ' s'.T s'.n a'.tmps->a'.defers=a.defers->Q .normal a' w'):(Code.region id ops true).wpIn (RO ro) 0 P Q a w:=by
 unfold qM at h
 split at h
 ·exact Ox hN hm hC hA hl h hR hG hT hk
 ·split at h
  ·rename_i s1 S h1
   cases hp:cQ S s1.M.log<;>simp only [hp,cond_true,cond_false] at h
   ·exact Kh hN hm hC hA hl h hR hG hT hk
   ·simp only [Option.some.injEq] at h
    subst h
    obtain⟨g1,_,st,ld,e1,_,e3,e4⟩:=kY (P:=P) (GL:=GL) (ops:=ops) hA ops.toList 0 [] [] (eR s) s1 (fun _=>eR s) (fun _=>0) (fun j _=>by simp) h1 rfl (fun d hd=>by cases hd) (fun m hm=>absurd hm (Nat.not_lt_zero _))
    have a0:st 0=eR s:=e1 0 (Nat.le_refl _)
    have hstN:st ops.size=s1:=by simpa using e3
    have R:rJ P GL callF ops (bD ops.toList []) (eR s).M.hide (fun _ a=>a.block∈S) st ld ops.size:=⟨fun j hj=>e4 j (Nat.zero_le _) (by simpa using hj),by rw[a0]⟩
    refine Md (s:=eR s) (s':=s1) hN hm hC hA hl a0 hstN R (Hi.of_block fun b hb=> ?_) (gI.congr (M1:=s.M) (M2:=(eR s).M) (fun _=>rfl) rfl hR) hG hT fun L φ' a' w' q1 q2 q3 q4=> ?_
    ·have a1:b<(st 0).M.next:=by
      rw[a0]
      rcases g1 b hb with h|h
      ·cases h
      ·exact h
     exact⟨a1,R.still hA a1 (by rw[hstN];exact rR hp b hb)⟩
    ·refine hk L φ' a' w' ?_ (Post.congr (M1:=(eR s).M) (M2:=s.M) (M1':=s1.M) rfl (fun _=>rfl) rfl q2) q3 q4
     show s1.M.log++s.M.log=L++s.M.log
     rw[q1]
     show(L++ [])++s.M.log=_
     simp
  ·cases h
end Go.Am
end
