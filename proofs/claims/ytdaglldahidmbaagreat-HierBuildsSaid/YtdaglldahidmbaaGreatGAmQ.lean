/-
  Package hier: each of its laws for every argument; no conditions. The last text states which.
-/
import Derived.Test.YtdaglldahidmbaaGreatGAmTop
import Derived.Test.YtdaglldahidmbaaGreatGAmEq
import Derived.Test.YtdaglldahidmbaaGreatGAmLoop
set_option linter.unusedVariables false
set_option linter.unusedSimpArgs false
noncomputable section
namespace Go.Am
open Go
variable{P:Program}{GL:List Nat}{B:Bd}{callF:dD}
inductive QG where
 |no
 |bad
 |at(d:Nat) (w:Bool)
structure QO where
 dst:Option Nat
 g:QG
 op:Op
 type:TypeId
inductive QC where
 |skip
 |plain (l:List QO)
 |free (l:List QO) (t:TypeId) (x y:Operand)
 |drawn (ops:Array Oper) (bs sl:List Nat) (lf:Option Oper)
 |seq (a b:QC)
 |cond (c:Operand) (a b:QC)
 |block (id:Nat) (b:QC)
 |loop (b:QC)
 |exit (id:Nat)
 |ret
 |label (l:Nat)
 |goto (l:Nat)
 |scope (c:QC)
 |bad
def oA(o:Oper):Nat:=
 match o.op with
 | .move _| .assign _| .pick _ _ _| .nilCheck _| .binOp _ _ _ _ _| .unOp _ _ _| .fieldAddr _ _ _| .field _ _ _| .indexAddr _ _ _| .index _ _ _| .extract _ _| .build _ _| .makeInterface _ _| .makeFunc _ _ _| .typeAssert _ _ _ _=>0
 | .load _ _=>1
 | .alloc _| .box _ _| .buildSlice _ _ _=>3
 | .call c=>(match c.callee with| .builtin .len=>0|_=>2)
 |_=>2
def uW(deps k:Nat):List (Nat×Nat)->Bool
 | []=>true
 |(i,ki)::l=>(Nat.beq ki 0||Nat.beq k 0||deps.testBit i||(Nat.beq ki 1&&(Nat.beq k 1||Nat.beq k 3)))&&uW deps k l
def pR:List Oper->List Nat->Nat->List (Nat×Nat)->Bool
 | [],_,_,_=>true
 |o::l,d::ds,i,acc=>uW d (oA o) acc&&pR l ds (i+1) ((i,oA o)::acc)
 |_::_,[],_,_=>false
def Nx{α:Type}:List α->Bool
 | []=>true
 |_=>false
def cg(ops:Array Oper)(o:Oper):QG:=
 match o.guard with
 |none=> .no
 |some (j,w)=>match(ops[j]?).bind (·.dst) with
  |some d=> .at d w
  |none=> .bad
def Xn(ops:Array Oper)(o:Oper):QO:=⟨o.dst,cg ops o,o.op,o.type⟩
def Nl(ops:Array Oper)(f:Oper):QC:=
 match f.op with
 | .store t x y=> .free (ops.toList.dropLast.map (Xn ops)) t x y
 |_=> .bad
def slOf(ops:Array Oper):List Nat:=match lE ops.toList (bK ops.toList []) with|some _=>uV ops.toList (bK ops.toList [])|none=>lJ ops.toList (bK ops.toList []) ops.toList (bK ops.toList []) 0
def Yp(ops:Array Oper):QC:=bif kY ops then .drawn ops (bK ops.toList []) (slOf ops) (lE ops.toList (bK ops.toList [])) else .bad
def Ou(ops:Array Oper):QC:=
 bif kY ops&&Nx (lJ ops.toList (bK ops.toList []) ops.toList (bK ops.toList []) 0) then
  match lE ops.toList (bK ops.toList []) with
  |none=>bif pR ops.toList (bK ops.toList []) 0 [] then .plain (ops.toList.map (Xn ops)) else Yp ops
  |some f=>bif pR ops.toList.dropLast (bK ops.toList []) 0 []&&Nx (uV ops.toList (bK ops.toList [])) then Nl ops f else Yp ops
 else Yp ops
def comp:Code->QC
 | .skip=> .skip
 | .region _ ops draw=>bif draw then Ou ops else .plain (ops.toList.map (Xn ops))
 | .seq a b=> .seq (comp a) (comp b)
 | .cond c a b=> .cond c (comp a) (comp b)
 | .block id b=> .block id (comp b)
 | .loop b=> .loop (comp b)
 | .exit id=> .exit id
 | .ret=> .ret
 | .label l=> .label l
 | .goto l=> .goto l
 | .scope c=> .scope (comp c)
 |_=> .bad
def Iv(g:QG)(T:Tr Value):Option Bool:=
 match g with
 | .no=>some true
 | .bad=>none
 | .at d w=>match T.get d with
  |some (.bool b)=>some (b==w)
  |some _=>some false
  |none=>none
def vZ(q:QO):Oper:=⟨q.dst,q.op,q.type, "",#[],none⟩
theorem Rr{ops:Array Oper}{o:Oper}{T:Tr Value}{M:aB}:jY P GL callF (vZ (Xn ops o)) T M=jY P GL callF o T M:=by obtain⟨dst,op,type,pos,after,guard⟩:=o;cases op<;>rfl
theorem Of{ops:Array Oper}{o:Oper}{T:Tr Value}:Iv (cg ops o) T=fB ops T o:=by
 unfold cg fB;cases o.guard with
 |none=>rfl
 |some g=>
  obtain⟨j,w⟩:=g
  simp only
  cases(ops[j]?).bind (·.dst)<;>rfl
section sound
variable{cf cf':dD}(hc:∀f a M r,cf f a M=some r->cf' f a M=some r)
include hc
end sound
theorem Qj{o:Oper}{T:Tr Value}{M M':aB}{k:Nat}{r:AR}(hq:oA o=0)(h:jY P GL callF o T M=some (k,r,M')):k=0/\M'=M/\fL P GL o T=some r:=by
 obtain⟨dst,op,type,pos,after,guard⟩:=o;unfold jY at h;split at h
 ·rename_i r' hr;simp at h;obtain⟨rfl,rfl,rfl⟩:=h;exact⟨rfl,rfl,hr⟩
 ·rename_i h0;clear h0;exfalso;replace h:fM P GL callF {dst:=dst,op:=op,type:=type,pos:=pos,after:=after,guard:=guard} T M=some (k,r,M'):=by
   split at h
   ·cases h
   ·exact h
  cases op<;>simp [oA] at hq<;>simp only [fM] at h<;>try (cases h;done)
  case call c=>
   obtain⟨callee,args,argTypes⟩:=c
   cases callee with
   |builtin b=>cases b<;>first|(cases h;done)|exact absurd hq (by simp)
   |value f=>exact absurd hq (by simp)
   |invoke x n=>exact absurd hq (by simp)
theorem Gg{o:Oper}{T:Tr Value}{M M':aB}{k:Nat}{r:AR}(hq:oA o=1)(h:jY P GL callF o T M=some (k,r,M')):k<=1/\M'=M:=by
 obtain⟨dst,op,type,pos,after,guard⟩:=o;cases op<;>simp [oA] at hq;case load t x=>
  have:=Qx (o:=⟨dst,.load t x,type,pos,after,guard⟩) rfl h
  exact⟨this.2,this.1⟩
 case call c=>
  obtain⟨callee,args,argTypes⟩:=c
  simp only at hq
  split at hq<;>cases hq
theorem Qk{o:Oper}{T:Tr Value}{M M':aB}{k:Nat}{r:AR}(hq:oA o=3)(h:jY P GL callF o T M=some (k,r,M')):k<=1:=by
 obtain⟨dst,op,type,pos,after,guard⟩:=o;have hm:∀{v:Value} {M1:aB},made v M1=some (k,r,M')->k<=1:=fun h=>by
  simp only [made,Option.some.injEq,Prod.mk.injEq] at h;omega
 unfold jY at h;split at h
 ·simp at h;omega
 ·rename_i h0;clear h0;replace h:fM P GL callF {dst:=dst,op:=op,type:=type,pos:=pos,after:=after,guard:=guard} T M=some (k,r,M'):=by
   split at h
   ·cases h
   ·exact h
  cases op<;>simp [oA] at hq;case alloc e=>
   simp only [fM] at h
   unfold cQ at h
   split at h<;>try (cases h;done)
   split at h<;>try (cases h;done)
   rename_i v _
   cases hb:(flat v&&v.cells.toList.all isCell)<;>simp only [hb,cond_true,cond_false] at h
   ·cases h
   ·exact hm h
  case box e x=>
   simp only [fM] at h
   split at h<;>try (cases h;done)
   rename_i v _
   unfold fE at h
   split at h<;>try (cases h;done)
   cases hb:(v.cells.toList.all isCell)<;>simp only [hb,cond_true,cond_false] at h
   ·cases h
   ·exact hm h
  case buildSlice t n ps=>
   simp only [fM] at h
   split at h<;>try (cases h;done)
   unfold bE at h
   split at h<;>try (cases h;done)
   split at h<;>try (cases h;done)
   split at h<;>try (cases h;done)
   generalize (flat _&&_&&_&&_&&_)=b at h
   cases b<;>simp only [cond_true,cond_false] at h
   ·cases h
   ·split at h<;>try (cases h;done)
    rename_i cs _;cases hb:cs.all isCell<;>simp only [hb,cond_true,cond_false] at h
    ·cases h
    ·exact hm h
  case call c=>
   obtain⟨callee,args,argTypes⟩:=c
   simp only at hq
   split at hq<;>cases hq
theorem sN{deps k:Nat}:∀{acc:List (Nat×Nat)},uW deps k acc=true->∀p∈acc,p.2=0\/k=0\/deps.testBit p.1=true\/(p.2=1/\(k=1\/k=3))
 | [],_,_,h=>by cases h
 |(i,ki)::l,h,p,hp=>by
  simp only [uW,Bool.and_eq_true,Bool.or_eq_true,Nat.beq_eq] at h;rcases List.mem_cons.1 hp with rfl|hp
  ·rcases h.1 with((h|h)|h)|h
   ·exact .inl h
   ·exact .inr (.inl h)
   ·exact .inr (.inr (.inl h))
   ·exact .inr (.inr (.inr h))
  ·exact sN h.2 p hp
def Jb(dn:List jW)(acc:List (Nat×Nat)):Prop:=∀d∈dn,∃k,(d.ix,k)∈acc/\(k=0->d.loud=0)/\(k=1->d.loud<=1/\d.lo=d.hi)
theorem Dc{deps k:Nat}(hk:k≠0){acc:List (Nat×Nat)}(ht:uW deps k acc=true):∀{dn:List jW},Jb dn acc->aP deps dn=[]
 | [],_=>rfl
 |x::dn,h=>by
  unfold aP;have:(Nat.beq x.loud 0||deps.testBit x.ix||Nat.beq x.lo x.hi)=true:=by
   obtain⟨kx,h1,h2,h3⟩:=h x (List.mem_cons_self ..);rcases sN ht _ h1 with h4|h4|h4|⟨h4,_⟩
   ·simp [h2 h4]
   ·exact absurd h4 hk
   ·simp only at h4;simp [h4]
   ·simp [(h3 h4).2]
  rw[this];exact Dc hk ht fun d hd=>h d (List.mem_cons_of_mem _ hd)
theorem Al{deps k q:Nat}(hk:k≠0)(hq:k=1\/k=3->q<=1){acc:List (Nat×Nat)}(ht:uW deps k acc=true):∀{dn:List jW},Jb dn acc->sD deps q dn=true
 | [],_=>rfl
 |x::dn,h=>by
  have h0:=Al hk hq ht (dn:=dn) fun d hd=>h d (List.mem_cons_of_mem _ hd)
  simp only [sD,h0,Bool.and_true,Bool.or_eq_true,Bool.and_eq_true,Nat.beq_eq];obtain⟨kx,h1,h2,h3⟩:=h x (List.mem_cons_self ..);rcases sN ht _ h1 with h4|h4|h4|⟨h4,h5⟩
  ·exact .inl (.inl (.inl (h2 h4)))
  ·exact absurd h4 hk
  ·exact .inl (.inr h4)
  ·have:=(h3 h4).1;have:=hq h5;rcases Nat.eq_zero_or_pos x.loud with h6|h6<;>rcases Nat.eq_zero_or_pos q with h7|h7
   ·exact .inl (.inl (.inl h6))
   ·exact .inl (.inl (.inl h6))
   ·exact .inl (.inl (.inr h7))
   ·exact .inr ⟨by omega,by omega⟩
theorem An{deps:Nat}:∀{dn:List jW},sD deps 0 dn=true
 | []=>rfl
 |x::dn=>by simp [sD,An (dn:=dn)]
theorem kD(hA:bW callF){ops:Array Oper}{a0:List Nat}{n0:Nat}:∀(l:List Oper) (ds:List Nat) (i:Nat) (dn:List jW) (acc:List (Nat×Nat)) (s s':St),pR l ds i acc=true->Jb dn acc->(∀j,j<l.length->a0[i+j]?=ds[j]?)->
  xH P GL callF ops l s=some s'->pZ P GL callF ops a0 l i dn s=some s'/\lP P GL callF ops a0 [] n0 l i dn [] s=some (s',[])
 | [],ds,i,dn,acc,s,s',_,_,_,h=>by
  simp only [xH,Option.some.injEq] at h;subst h;exact⟨rfl,rfl⟩
 |o::l,[],i,dn,acc,s,s',ht,_,_,_=>by simp [pR] at ht
 |o::l,d::ds,i,dn,acc,s,s',ht,ha,hb,h=>by
  simp only [pR,Bool.and_eq_true] at ht;obtain⟨a7,a5⟩:=ht;have a9:a0[i]?=some d:=by have:=hb 0 (by simp);simpa using this
  have a1:∀j,j<l.length->a0[i+1+j]?=ds[j]?:=fun j hj=>by
   have:=hb (j+1) (by simp;omega);rw[show i+1+j=i+(j+1) by omega];simpa using this
  have a6:∀x:jW,x.ix=i->(oA o=0->x.loud=0)->(oA o=1->x.loud<=1/\x.lo=x.hi)->Jb (x::dn) ((i,oA o)::acc):=fun x hx h1 h2 y hy=>by
   rcases List.mem_cons.1 hy with rfl|hy
   ·exact⟨oA o,by rw[hx];exact List.mem_cons_self ..,h1,h2⟩
   ·obtain⟨k,q1,q2⟩:=ha y hy;exact⟨k,List.mem_cons_of_mem _ q1,q2⟩
  have a8:Jb dn ((i,oA o)::acc):=fun y hy=>by
   obtain⟨k,q1,q2⟩:=ha y hy;exact⟨k,List.mem_cons_of_mem _ q1,q2⟩
  simp only [xH] at h;simp only [pZ,lP,a9];split at h
  ·rename_i hw;simp only [hw];split at h
   ·rename_i k r M' hop;split at h
    ·rename_i s1 hp;by_cases hk:oA o=0
     ·obtain⟨rfl,rfl,h0⟩:=Qj hk hop;have a2:jY P GL callF o s.T {s.M with hide:=aP d dn++s.M.hide}=some (0,r,{s.M with hide:=aP d dn++s.M.hide}):=by
       unfold jY;rw[h0]
      have a3:({s with M:={({s.M with hide:=aP d dn++s.M.hide}:aB) with hide:=s.M.hide}}:St)={s with M:=s.M}:=rfl;have a4:oJ GL [] n0 o i s.T=none:=rfl;simp only [a2,a4,Pa An,cond_true,a3,hp];exact kD hA l ds (i+1) _ _ s1 s' a5 (a6 _ rfl (fun _=>rfl) (fun h=>by omega)) a1 h
     ·have hh:=Dc hk a7 ha;have hs:({s.M with hide:=[]++s.M.hide}:aB)=s.M:=rfl;have hq:oA o=1\/oA o=3->k<=1:=fun h1=>by
       rcases h1 with h1|h1
       ·exact(Gg h1 hop).1
       ·exact Qk h1 hop
      have hM:M'.hide=s.M.hide:=by obtain⟨_,L,hL,_⟩:=mC hA hop;exact hL.hide
      have a3:({s with M:={M' with hide:=s.M.hide}}:St)={s with M:=M'}:=by rw[<-hM]
      have a4:oJ GL [] n0 o i s.T=none:=rfl;simp only [hh,hs,hop,a4,Pa (Al hk hq a7 ha),cond_true,a3,hp];refine kD hA l ds (i+1) _ _ s1 s' a5 (a6 _ rfl (fun h=>absurd h hk) (fun h1=>?_)) a1 h;obtain⟨q1,rfl⟩:=Gg h1 hop;exact⟨q1,rfl⟩
    ·cases h
   ·cases h
  ·rename_i hw;simp only [hw];cases hp:pY o .skip s with
   |none=>rw[hp] at h;cases h
   |some s1=>
    rw[hp] at h
    exact kD hA l ds (i+1) _ _ s1 s' a5 a8 a1 h
  ·cases h
theorem Gk{α:Type}{l:List α}(h:Nx l=true):l=[]:=by
 cases l with
 |nil=>rfl
 |cons x l=>cases h
section sound2
variable{cf cf':dD}(hc:∀f a M r,cf f a M=some r->cf' f a M=some r)
include hc
end sound2
section exec
variable{SP:dC}{qt:Tr QC}
end exec
def aF(P:Program)(f:FuncId):Option QC:=((P.funcs[f]?).bind (·.body)).map comp
end Go.Am
end

noncomputable section
namespace Go.Am
open Go
variable{P:Program}{GL:List Nat}{B:Bd}{callF:dD}{SP:dC}
inductive OQ where
 |q (x:Qu) (a:Fp)
 |eq (x:zV) (a:Fp)
 |cl (f:FuncId) (args:List Value) (M:aB) (a:Fp)
 |ln (a:Option Addr) (n c:Nat)
 |blk (id:Nat) (b:QC) (nt:Nat) (ks:List Nat) (vs:List (Option Value)) (M:aB) (e:cT) (T':Tr Value) (M':aB)
def OQ.holds(P:Program)(SP:dC):OQ->Prop
 | .q x a=>x.holds P SP a
 | .eq x a=>x=some a/\a.1≠0
 | .cl f args M a=>lB (jN SP) f args M=some a/\a.1≠0
 | .ln a n c=>a.isNone=true->n=0/\c=0
 | .blk id b nt ks vs M e T' M'=>∃g,SP.blocks id=some g/\∀c T,comp c=b->ks.map T.get=vs->g c ⟨T,nt,M⟩=some (e,⟨T',nt,M'⟩)
inductive OF where
 |at(pt:Nat) (a:Fp)
 |blk (pt:Nat) (ks:List Nat) (e:cT) (T':Tr Value) (M':aB)
def Ig:List OF->Nat->Option (Fp×List OF)
 | .at p a::F,c=>bif Nat.beq p c then some (a,F) else none
 |_,_=>none
def oblk?:List OF->Nat->Option (List Nat×cT×Tr Value×aB×List OF)
 | .blk p ks e T M::F,c=>bif Nat.beq p c then some (ks,e,T,M,F) else none
 |_,_=>none
abbrev oP:=List OQ
abbrev OH(α:Type):=Option (α×List OF×Nat×oP)
def Bq(g:QG)(T:Tr Value)(F:List OF)(c:Nat):OH Bool:=
 match Ig F c with
 |some (a,F')=>match g with
  | .at d want=>match T.get d,a.2.1 with
   |some (.bool b),.val (.bool t)=>some (t==want,F',c+1,[.q (.bool b) a])
   |_,_=>none
  |_=>none
 |none=>match Iv g T with
  |some b=>some (b,F,c+1,[])
  |none=>none
def Wc:dD:=fun _ _ _=>none
def omk(P:Program)(GL:List Nat)(o:Op)(T:Tr Value)(M:aB):Option zV:=
 match o with
 | .alloc elem=>some (cQ P elem M)
 | .box elem x=>match ev GL T x with|some v=>some (fE P elem v M)|none=>none
 | .buildSlice t len parts=>match nE GL T parts.toList with|some ps=>some (bE P t len ps M)|none=>none
 | .makeSlice t l c=>match ev GL T l,ev GL T c with|some l,some c=>some (bR P t l c M)|_,_=>none
 |_=>none
theorem Qs{q:QO}{T:Tr Value}{M:aB}{x:zV}{a:Fp}(h:omk P GL q.op T M=some x)(hx:x=some a)(ha:a.1≠0):jY P GL callF (vZ q) T M=some a:=by
 obtain⟨dst,g,op,type⟩:=q;refine eK ?_ ?_ ha<;>simp only [vZ]<;>simp only [omk] at h<;>split at h<;>try cases h
 all_goals simp only [fL,fM]
 all_goals first
  |exact hx
  |(split at h
    ·rename_i hv;cases h;simp only [hv];exact hx
    ·cases h)
  |(split at h
    ·rename_i h1 h2;cases h;simp only [h1,h2];exact hx
    ·cases h)
theorem Ke{T:Tr Value}:∀{l:List Operand} {vs:List Value},pS GL T l=some vs->l.map (fun x=>(ev GL T x).getD undef)=vs
 | [],vs,h=>by simp only [pS,Option.some.injEq] at h;subst h;rfl
 |x::l,vs,h=>by
  simp only [pS] at h;split at h
  ·rename_i v vs' h1 h2;cases h;simp only [List.map_cons,h1,Option.getD_some,Ke h2]
  ·cases h
def aAg(P:Program)(GL:List Nat)(o:Op)(T:Tr Value):Option (Option Addr×Nat×Nat):=
 match o with
 | .call c=>match c.callee with
  | .builtin .len=>match pS GL T c.args.toList,(c.argTypes[0]?).bind (P.underlying ·) with
   |some [.slice a n c],some (.slice _)=>some (a,n,c)
   |_,_=>none
  |_=>none
 |_=>none
theorem Oa{q:QO}{T:Tr Value}{M:aB}{a:Option Addr}{n c:Nat}(h:aAg P GL q.op T=some (a,n,c))(hn:a.isNone=true->n=0/\c=0):jY P GL callF (vZ q) T M=some (0,.val (.int .i64 n),M):=by
 obtain⟨dst,g,op,type⟩:=q;simp only at h;unfold aAg at h;split at h
 ·rename_i c0;obtain⟨callee,args,argTypes⟩:=c0;simp only at h;split at h
  ·split at h
   ·rename_i a' n' c' e hx ht;simp only [Option.some.injEq,Prod.mk.injEq] at h;obtain⟨rfl,rfl,rfl⟩:=h;cases a' with
    |none=>
     obtain⟨rfl,rfl⟩:=hn rfl
     have hr:cF P (execOp (fun x=>(ev GL T x).getD undef) (vZ ⟨dst,g,.call ⟨.builtin .len,args,argTypes⟩,type⟩))=some (.value (.int .i64 0)):=by
      have hm:args.map (fun x=>(ev GL T x).getD undef)= #[.slice none 0 0]:=by
       apply Array.ext';simp only [Array.toList_map];exact Ke hx
      cases hr:argTypes[0]? with
      |none=>rw[hr] at ht;cases ht
      |some t0=>
       rw[hr] at ht
       simp only [Option.bind_some] at ht
       simp [vZ,execOp,resolve,invoke,builtin,hm,Builtin.len_,hr,goInt,underlying,program,bind,Sem.bind,cF,pure,ht]
     have hf:jS P GL (vZ ⟨dst,g,.call ⟨.builtin .len,args,argTypes⟩,type⟩) T=some (.val (.int .i64 0)):=by
      unfold jS;have:pS GL T (vZ ⟨dst,g,.call ⟨.builtin .len,args,argTypes⟩,type⟩).op.operands.toList=some [.slice none 0 0]:=by
       simpa [vZ,Op.operands,Call.operands] using hx
      rw[this];simp only [dU,flat,Option.isNone_none,Bool.and_true,Nat.beq_refl,cond_true,hr]
     unfold jY
     simp only [vZ] at hf⊢
     simp only [fL,kO,hf]
     rfl
    |some a=>
     unfold jY
     simp only [vZ,fL,kO,hx,ht]
     have:jS P GL ({dst:=dst,op:= .call ⟨.builtin .len,args,argTypes⟩,type:=type,pos:= "",after:= #[],guard:=none}:Oper) T=none:=by
      unfold jS;have:pS GL T ({dst:=dst,op:= .call ⟨.builtin .len,args,argTypes⟩,type:=type,pos:= "",after:= #[],guard:=none}:Oper).op.operands.toList=some [.slice (some a) n' c']:=by
       simpa [Op.operands,Call.operands] using hx
      rw[this];simp [dU,flat]
     rw[this]
     rfl
   ·cases h
  ·cases h
 ·cases h
def Wg(P:Program)(GL:List Nat)(q:QO)(T:Tr Value)(M:aB)(F:List OF)(c:Nat):OH Fp:=
 match Ig F c with
 |some (a,F')=>match omk P GL q.op T M with
  |some x=>some (a,F',c+1,[.eq x a])
  |none=>match aAg P GL q.op T with
  |some (a,n,cp)=>some ((0,.val (.int .i64 n),M),F',c+1,[.ln a n cp])
  |none=>match yW P GL (vZ q) T with
   |some (g,args)=>match fL P GL (vZ q) T with
    |none=>some (a,F',c+1,[.cl g args M a])
    |some _=>none
   |none=>match hop P GL (vZ q) T M a with
    |some (r,x)=>some (r,F',c+1,[.q x a])
    |none=>none
 |none=>match jY P GL Wc (vZ q) T M with
  |some r=>some (r,F,c+1,[])
  |none=>none
def Qt(nt:Nat)(dst:Option Nat)(r:AR)(T:Tr Value):Option (Tr Value):=
 match dst,r with
 |none,_=>some T
 |some d,.val v=>bif Nat.blt d nt then some (T.set d (some v)) else none
 |some d,.skip=>bif Nat.blt d nt then some (T.set d (some undef)) else none
def Oc(P:Program)(GL:List Nat)(nt:Nat):List QO->Tr Value->aB->List OF->Nat->OH (Tr Value×aB)
 | [],T,M,F,c=>some ((T,M),F,c,[])
 |q::l,T,M,F,c=>match Bq q.g T F c with
  |some (true,F1,c1,q1)=>match Wg P GL q T M F1 c1 with
   |some ((_,r,M'),F2,c2,q2)=>match Qt nt q.dst r T with
    |some T'=>match Oc P GL nt l T' M' F2 c2 with
     |some (x,F3,c3,q3)=>some (x,F3,c3,q1++q2++q3)
     |none=>none
    |none=>none
   |none=>none
  |some (false,F1,c1,q1)=>match Qt nt q.dst .skip T with
   |some T'=>match Oc P GL nt l T' M F1 (c1+1) with
    |some (x,F3,c3,q3)=>some (x,F3,c3,q1++q3)
    |none=>none
   |none=>none
  |none=>none
def Uv(GL:List Nat)(o:Oper)(T:Tr Value):Option Nat:=
 match o.op with
 | .load _ x=>match ev GL T x with
  |some (.pointer (some a))=>some a.block
  |_=>none
 |_=>none
def Ao(P:Program)(GL:List Nat)(nt:Nat)(ops:Array Oper)(before sl:List Nat)(n0:Nat):List Oper->Nat->List jW->List Nat->Tr Value->aB->List OF->Nat->OH (Tr Value×aB×List Nat)
 | [],_,_,S,T,M,F,c=>some ((T,M,S),F,c,[])
 |o::rest,i,dn,S,T,M,F,c=>match Bq (cg ops o) T F c,before[i]? with
  |some (true,F1,c1,q1),some deps=>match Wg P GL (Xn ops o) T {M with hide:=aP deps dn++M.hide} F1 c1 with
   |some ((k,r,M'),F2,c2,q2)=>match Qt nt o.dst r T with
    |some T'=>bif eX i sl then
      match Uv GL o T with
      |some b=>match Ao P GL nt ops before sl n0 rest (i+1) dn (b::S) T' M F2 c2 with
       |some (x,F3,c3,q3)=>some (x,F3,c3,q1++q2++OQ.q (.bool (Nat.blt b n0)) (uY true)::q3)
       |none=>none
      |none=>none
     else bif wL ops o deps k dn then
      match Ao P GL nt ops before sl n0 rest (i+1) (⟨i,k,M.next,M'.next⟩::dn) S T' {M' with hide:=M.hide} F2 c2 with
      |some (x,F3,c3,q3)=>some (x,F3,c3,q1++q2++q3)
      |none=>none
     else none
    |none=>none
   |none=>none
  |some (false,F1,c1,q1),some _=>match Qt nt o.dst .skip T with
   |some T'=>match Ao P GL nt ops before sl n0 rest (i+1) dn S T' M F1 (c1+1) with
    |some (x,F3,c3,q3)=>some (x,F3,c3,q1++q3)
    |none=>none
   |none=>none
  |_,_=>none
def Ny(P:Program)(GL:List Nat)(nt:Nat)(ops:Array Oper)(T:Tr Value)(M:aB)(F:List OF)(c:Nat):OH (Tr Value×aB):=
 bif kY ops then
  match lE ops.toList (bK ops.toList []) with
  |some _=>none
  |none=>match lJ ops.toList (bK ops.toList []) ops.toList (bK ops.toList []) 0 with
   | []=>match Ao P GL nt ops (bK ops.toList []) [] 0 ops.toList 0 [] [] T M F c with
    |some ((T',M',_),r)=>some ((T',M'),r)
    |none=>none
   |x::l=>match Ao P GL nt ops (bK ops.toList []) (x::l) M.next ops.toList 0 [] [] T {M with log:=[]} F c with
    |some ((T',M',S),F1,c1,q)=>some ((T',{M' with log:=M'.log++M.log}),F1,c1,q++ [OQ.q (.bool (bZ S M'.log)) (uY true)])
    |none=>none
 else none
def Tx(P:Program)(GL:List Nat)(nt:Nat)(l:List QO)(x y:Operand)(t:TypeId)(T:Tr Value)(M:aB)(F:List OF)(c:Nat):OH (Tr Value×aB):=
 match Oc P GL nt l T {M with log:=[]} F c with
 |some ((T1,M1),F1,c1,q1)=>match Ig F1 c1,ev GL T1 x,ev GL T1 y with
  |some ((2,.skip,M2),F2),some (.pointer (some a)),some v=>
   some ((T1,{M2 with log:=M2.log++M.log}),F2,c1+1,q1++ [OQ.q (.store t a v M1) (2,.skip,M2),OQ.q (.bool (Nat.blt a.block M.next&& !(eX a.block M1.log))) (uY true)])
  |_,_,_=>none
 |none=>none
abbrev OX:=Nat->QC->Tr Value->aB->List OF->Nat->OH (cT×Tr Value×aB)
def oC(P:Program)(GL:List Nat)(tb:List Nat)(ih:OX)(nt:Nat)(c:QC)(T:Tr Value)(M:aB)(F:List OF)(k:Nat):OH (cT×Tr Value×aB):=
 match c with
 | .skip=>some ((.normal,T,M),F,k,[])
 | .plain l=>match Oc P GL nt l T M F k with
  |some ((T',M'),r)=>some ((.normal,T',M'),r)
  |none=>none
 | .free l t x y=>match Tx P GL nt l x y t T M F k with
  |some ((T',M'),r)=>some ((.normal,T',M'),r)
  |none=>none
 | .drawn ops _ _ _=>match Ny P GL nt ops T M F k with
  |some ((T',M'),r)=>some ((.normal,T',M'),r)
  |none=>none
 | .seq a b=>match ih nt a T M F k with
  |some ((.normal,T1,M1),F1,k1,q1)=>match ih nt b T1 M1 F1 k1 with
   |some (r,F2,k2,q2)=>some (r,F2,k2,q1++q2)
   |none=>none
  |r=>r
 | .cond x a b=>match Ig F k with
  |some (an,F')=>match ev GL T x,an.2.1 with
   |some (.bool v),.val (.bool t)=>match ih nt (bif t then a else b) T M F' (k+1) with
    |some (r,F2,k2,q2)=>some (r,F2,k2,OQ.q (.bool v) an::q2)
    |none=>none
   |_,_=>none
  |none=>match ev GL T x with
   |some (.bool t)=>ih nt (bif t then a else b) T M F (k+1)
   |_=>none
 | .block id b=>bif eX id tb then match oblk? F k with
   |some (ks,e,T',M',F')=>some ((e,T',M'),F',k+1,[.blk id b nt ks (ks.map T.get) M e T' M'])
   |none=>none
  else match ih nt b T M F k with
   |some ((.exit i,T',M'),r)=>bif Nat.beq i id then some ((.normal,T',M'),r) else some ((.exit i,T',M'),r)
   |r=>r
 | .loop b=>match ih nt b T M F k with
  |some ((.normal,T1,M1),F1,k1,q1)=>match ih nt (.loop b) T1 M1 F1 k1 with
   |some (r,F2,k2,q2)=>some (r,F2,k2,q1++q2)
   |none=>none
  |r=>r
 | .exit id=>some ((.exit id,T,M),F,k,[])
 | .ret=>some ((.ret,T,M),F,k,[])
 | .label _=>some ((.normal,T,M),F,k,[])
 | .goto l=>some ((.goto l,T,M),F,k,[])
 | .scope c=>match ih nt c T M F k with
  |some ((.goto _,_,_),_)=>none
  |r=>r
 | .bad=>none
def oB(P:Program)(GL:List Nat)(tb:List Nat)(n:Nat):OX:=
 Nat.rec (motive:=fun _=>OX) (fun _ _ _ _ _ _=>none) (fun _ ih=>oC P GL tb ih) n
def fS(P:Program)(SP:dC)(q:oP):Prop:=∀p∈q,p.holds P SP
theorem fS.left{q1 q2:oP}(h:fS P SP (q1++q2)):fS P SP q1:=fun p hp=>h p (by simp [hp])
theorem fS.right{q1 q2:oP}(h:fS P SP (q1++q2)):fS P SP q2:=fun p hp=>h p (by simp [hp])
theorem lG{ops:Array Oper}{o:Oper}{T:Tr Value}{F F':List OF}{c c':Nat}{b:Bool}{q:oP}(h:Bq (cg ops o) T F c=some (b,F',c',q))(hq:fS P SP q):fB ops T o=some b:=by
 rw[<-Of];unfold Bq at h;split at h
 ·rename_i a F1 _;generalize cg ops o=g at h⊢;cases g with
  |no=>cases h
  |bad=>cases h
  |«at» d want=>
   simp only at h
   split at h
   ·rename_i v t hT ha;simp only [Option.some.injEq,Prod.mk.injEq] at h;obtain⟨rfl,_,_,rfl⟩:=h;have:=hq _ (List.mem_singleton.2 rfl);simp only [OQ.holds,Qu.holds] at this;rw[ha] at this;cases this;simp only [Iv,hT]
   ·cases h
 ·split at h
  ·rename_i b' hb;simp only [Option.some.injEq,Prod.mk.injEq] at h;obtain⟨rfl,_⟩:=h;exact hb
  ·cases h
theorem wQ(hK:zU SP callF){ops:Array Oper}{o:Oper}{T:Tr Value}{M:aB}{F F':List OF}{c c':Nat}{r:Fp}{q:oP}(h:Wg P GL (Xn ops o) T M F c=some (r,F',c',q))(hq:fS P SP q):jY P GL callF o T M=some r:=by
 rw[<-Rr (ops:=ops)];unfold Wg at h;split at h
 ·split at h
  ·rename_i x hm;simp only [Option.some.injEq,Prod.mk.injEq] at h;obtain⟨rfl,_,_,rfl⟩:=h;obtain⟨h1,h2⟩:=hq _ (List.mem_singleton.2 rfl);exact Qs hm h1 h2
  ·split at h
   ·rename_i a n cp hm;simp only [Option.some.injEq,Prod.mk.injEq] at h;obtain⟨rfl,_,_,rfl⟩:=h;exact Oa hm (hq _ (List.mem_singleton.2 rfl))
   split at h
   ·rename_i g args hg;split at h
    ·rename_i h0;simp only [Option.some.injEq,Prod.mk.injEq] at h;obtain⟨rfl,_,_,rfl⟩:=h;obtain⟨h1,h2⟩:=hq _ (List.mem_singleton.2 rfl);refine eK h0 ?_ h2;rw[Ba hg];exact oQ hK h1
    ·cases h
   ·split at h
    ·rename_i r' x hr;simp only [Option.some.injEq,Prod.mk.injEq] at h;obtain⟨rfl,_,_,rfl⟩:=h;exact Qg hK hr (hq _ (List.mem_singleton.2 rfl))
    ·cases h
 ·split at h
  ·rename_i r' hr;simp only [Option.some.injEq,Prod.mk.injEq] at h;obtain⟨rfl,_⟩:=h;exact Pt (fun f a M r h=>by cases h) hr
  ·cases h
theorem mY{nt:Nat}{o:Oper}{r:AR}{T T':Tr Value}(M:aB)(h:Qt nt o.dst r T=some T'):pY o r ⟨T,nt,M⟩=some ⟨T',nt,M⟩:=by
 unfold Qt at h;unfold pY;split at h
 ·rename_i hd;cases h;rw[hd]
 ·rename_i d v hd;cases hb:Nat.blt d nt<;>simp only [hb,cond_true,cond_false] at h
  ·cases h
  ·cases h;simp only [hd,hb,cond_true]
 ·rename_i d hd;cases hb:Nat.blt d nt<;>simp only [hb,cond_true,cond_false] at h
  ·cases h
  ·cases h;simp only [hd,hb,cond_true]
theorem pJ(hK:zU SP callF){ops:Array Oper}{nt:Nat}:∀(l:List Oper) (T:Tr Value) (M:aB) (F:List OF) (c:Nat) (T':Tr Value) (M':aB) (F':List OF) (c':Nat) (q:oP),
  Oc P GL nt (l.map (Xn ops)) T M F c=some ((T',M'),F',c',q)->fS P SP q->xH P GL callF ops l ⟨T,nt,M⟩=some ⟨T',nt,M'⟩
 | [],T,M,F,c,T',M',F',c',q,h,_=>by
  simp only [List.map_nil,Oc,Option.some.injEq,Prod.mk.injEq] at h;obtain⟨⟨rfl,rfl⟩,_⟩:=h;rfl
 |o::l,T,M,F,c,T',M',F',c',q,h,hq=>by
  simp only [List.map_cons,Oc] at h;simp only [xH];split at h
  ·rename_i F1 c1 q1 hw;split at h
   ·rename_i k r M1 F2 c2 q2 ho;split at h
    ·rename_i T1 hp;split at h
     ·rename_i x F3 c3 q3 hs;simp only [Option.some.injEq,Prod.mk.injEq] at h;obtain⟨rfl,_,_,rfl⟩:=h;have a0:=lG (P:=P) (SP:=SP) (o:=o) hw hq.left.left;have a1:=wQ hK (o:=o) ho hq.left.right;simp only [a0,a1,mY (o:=o) M1 hp];exact pJ hK l T1 M1 F2 c2 T' M' _ _ q3 hs hq.right
     ·cases h
    ·cases h
   ·cases h
  ·rename_i F1 c1 q1 hw;split at h
   ·rename_i T1 hp;split at h
    ·rename_i x F3 c3 q3 hs;simp only [Option.some.injEq,Prod.mk.injEq] at h;obtain⟨rfl,_,_,rfl⟩:=h;have a0:=lG (P:=P) (SP:=SP) (o:=o) hw hq.left;simp only [a0,mY (o:=o) M hp];exact pJ hK l T1 M _ _ T' M' _ _ q3 hs hq.right
    ·cases h
   ·cases h
  ·cases h
theorem zF{b:Bool}(h:OQ.holds P SP (.q (.bool b) (uY true))):b=true:=by simp only [OQ.holds,Qu.holds,uY] at h;cases h;rfl
theorem nP(hK:zU SP callF){ops:Array Oper}{nt n0:Nat}{a0 sl:List Nat}:∀(l:List Oper) (i:Nat) (dn:List jW) (S:List Nat) (T:Tr Value) (M:aB) (F:List OF) (c:Nat) (T':Tr Value) (M':aB) (S':List Nat) (F':List OF) (c':Nat) (q:oP),
  Ao P GL nt ops a0 sl n0 l i dn S T M F c=some ((T',M',S'),F',c',q)->fS P SP q->lP P GL callF ops a0 sl n0 l i dn S ⟨T,nt,M⟩=some (⟨T',nt,M'⟩,S')/\(sl=[]->pZ P GL callF ops a0 l i dn ⟨T,nt,M⟩=some ⟨T',nt,M'⟩)
 | [],i,dn,S,T,M,F,c,T',M',S',F',c',q,h,_=>by
  simp only [Ao,Option.some.injEq,Prod.mk.injEq] at h;obtain⟨⟨rfl,rfl,rfl⟩,_⟩:=h;exact⟨rfl,fun _=>rfl⟩
 |o::l,i,dn,S,T,M,F,c,T',M',S',F',c',q,h,hq=>by
  simp only [Ao] at h;simp only [lP,pZ];split at h
  ·rename_i F1 c1 q1 deps hw hd;split at h
   ·rename_i k r M1 F2 c2 q2 ho;split at h
    ·rename_i T1 hp;cases he:eX i sl<;>simp only [he,cond_true,cond_false] at h
     ·cases hm:wL ops o deps k dn<;>simp only [hm,cond_true,cond_false] at h
      ·cases h
      ·split at h
       ·rename_i x F3 c3 q3 hs;simp only [Option.some.injEq,Prod.mk.injEq] at h;obtain⟨rfl,_,_,rfl⟩:=h;have a1:=lG (P:=P) (SP:=SP) (o:=o) hw hq.left.left;have a2:=wQ hK (o:=o) ho hq.left.right;have ih:=nP hK l (i+1) _ S T1 _ F2 c2 T' M' S' _ _ q3 hs hq.right;have a3:oJ GL sl n0 o i T=none:=by unfold oJ;rw[he];rfl
        have a4:=mY (o:=o) {M1 with hide:=M.hide} hp;refine⟨?_,fun hsl=>?_⟩
        ·simp only [a1,hd,a2,a3,hm,cond_true];rw[show({T:=T,n:=nt,M:={M1 with hide:=M.hide}}:St)=⟨T,nt,{M1 with hide:=M.hide}⟩ from rfl,a4];exact ih.1
        ·simp only [a1,hd,a2,hm,cond_true];rw[show({T:=T,n:=nt,M:={M1 with hide:=M.hide}}:St)=⟨T,nt,{M1 with hide:=M.hide}⟩ from rfl,a4];exact ih.2 hsl
       ·cases h
     ·split at h
      ·rename_i b hb;split at h
       ·rename_i x F3 c3 q3 hs;simp only [Option.some.injEq,Prod.mk.injEq] at h;obtain⟨rfl,_,_,rfl⟩:=h;have a1:=lG (P:=P) (SP:=SP) (o:=o) hw hq.left.left;have a2:=wQ hK (o:=o) ho hq.left.right;have a6:fS P SP q3:=fun p hp=>hq.right p (List.mem_cons_of_mem _ hp)
        have a5:Nat.blt b n0=true:=zF (hq.right _ (List.mem_cons_self ..));have ih:=nP hK l (i+1) dn (b::S) T1 M F2 c2 T' M' S' _ _ q3 hs a6;have a3:oJ GL sl n0 o i T=some b:=by
         unfold oJ Ii;rw[he];unfold Uv at hb;simp only [cond_true];split at hb
         ·rename_i t x hop;split at hb
          ·rename_i a hx;cases hb;simp only [hop,hx,a5,cond_true]
          ·cases hb
         ·cases hb
        refine⟨?_,fun hsl=>?_⟩
        ·simp only [a1,hd,a2,a3,mY (o:=o) M hp];exact ih.1
        ·subst hsl;cases he
       ·cases h
      ·cases h
    ·cases h
   ·cases h
  ·rename_i F1 c1 q1 deps hw hd;split at h
   ·rename_i T1 hp;split at h
    ·rename_i x F3 c3 q3 hs;simp only [Option.some.injEq,Prod.mk.injEq] at h;obtain⟨rfl,_,_,rfl⟩:=h;have a1:=lG (P:=P) (SP:=SP) (o:=o) hw hq.left;have ih:=nP hK l (i+1) dn S T1 M _ _ T' M' S' _ _ q3 hs hq.right;refine⟨?_,fun hsl=>?_⟩
     ·simp only [a1,hd,mY (o:=o) M hp];exact ih.1
     ·simp only [a1,hd,mY (o:=o) M hp];exact ih.2 hsl
    ·cases h
   ·cases h
  ·cases h
theorem Ie(hK:zU SP callF){ops:Array Oper}{nt:Nat}{T T':Tr Value}{M M':aB}{F F':List OF}{c c':Nat}{q:oP}(h:Ny P GL nt ops T M F c=some ((T',M'),F',c',q))(hq:fS P SP q):
  kY ops=true/\oV P GL callF ops ⟨T,nt,M⟩=some ⟨T',nt,M'⟩:=by
 unfold Ny at h
 cases hl:kY ops<;>simp only [hl,cond_true,cond_false] at h
 ·cases h
 refine⟨rfl,?_⟩
 split at h
 ·cases h
 ·rename_i hf;simp only [oV,hf,rW];split at h
  ·rename_i hs;split at h
   ·rename_i T1 M1 S1 r ho;obtain⟨F2,c2,q2⟩:=r;simp only [Option.some.injEq,Prod.mk.injEq] at h;obtain⟨⟨rfl,rfl⟩,_,_,rfl⟩:=h;simp only [hs];exact(nP hK _ _ _ _ _ _ _ _ _ _ _ _ _ _ ho hq).2 rfl
   ·cases h
  ·rename_i x l hs;split at h
   ·rename_i T1 M1 S1 F2 c2 q2 ho;simp only [Option.some.injEq,Prod.mk.injEq] at h;obtain⟨⟨rfl,rfl⟩,_,_,rfl⟩:=h;have h1:=(nP hK _ _ _ _ _ _ _ _ _ _ _ _ _ _ ho hq.left).1;have a0:bZ S1 M1.log=true:=zF (hq.right _ (List.mem_singleton.2 rfl));simp only [hs];rw[show fK ⟨T,nt,M⟩=(⟨T,nt,{M with log:=[]}⟩:St) from rfl,h1];simp only [a0,cond_true,Fu]
   ·cases h
theorem Lb(hA:bW callF)(hK:zU SP callF){ops:Array Oper}(a3:uV ops.toList (bK ops.toList [])=[]){f:Oper}(a2:lE ops.toList (bK ops.toList [])=some f){t:TypeId}{x y:Operand}(hop:f.op= .store t x y)
  (ht:pR ops.toList.dropLast (bK ops.toList []) 0 []=true) {nt:Nat} {T T':Tr Value} {M M':aB} {F F':List OF} {c c':Nat} {q:oP} (h:Tx P GL nt (ops.toList.dropLast.map (Xn ops)) x y t T M F c=some ((T',M'),F',c',q)) (hq:fS P SP q):
  oV P GL callF ops ⟨T,nt,M⟩=some ⟨T',nt,M'⟩:=by
 unfold Tx at h
 split at h
 ·rename_i T1 M1 F1 c1 q1 hs;split at h
  ·rename_i M2 F2 a v hf hx hy;simp only [Option.some.injEq,Prod.mk.injEq] at h;obtain⟨⟨rfl,rfl⟩,_,_,rfl⟩:=h;have h2:=pJ hK _ _ _ _ _ _ _ _ _ _ hs hq.left;have h3:=(kD (n0:=M.next) hA _ _ 0 [] [] _ _ ht (fun d hd=>by cases hd) (fun j _=>by rw[Nat.zero_add]) h2).2;have a1:OQ.holds P SP (.q (.store t a v M1) (2,.skip,M2)):=hq.right _ (by simp);have hb:(Nat.blt a.block M.next&& !(eX a.block M1.log))=true:=zF (hq.right _ (by simp));have a0:eB P t a v M1=some M2:=by
    simp only [OQ.holds,Qu.holds] at a1;obtain⟨M3,e1,e2⟩:=a1;cases e1;exact e2
   simp only [oV,a2,Bz,a3];rw[show fK ⟨T,nt,M⟩=(⟨T,nt,{M with log:=[]}⟩:St) from rfl,h3];simp only [bZ,cond_true,Vo,hop,hx,hy,a0,hb,Fu]
  ·cases h
 ·cases h
section exec
def OOk(P:Program)(SP:dC)(ih:OX)(ih':Code->St->Option (cT×St)):Prop:=∀nt c T M F k e T' M' F' k' q,ih nt (comp c) T M F k=some ((e,T',M'),F',k',q)->fS P SP q->ih' c ⟨T,nt,M⟩=some (e,⟨T',nt,M'⟩)
theorem Ld{tb:List Nat}(hB:∀id,eX id tb=false->SP.blocks id=none){ih:OX}{a1:Code->St->Option (cT×St)}(hi:OOk P SP ih a1)(hA:bW (fV SP (mV P a1))):OOk P SP (oC P GL tb ih) (qY P GL SP a1):=fun nt c T M F k e T' M' F' k' q h hq=>by
 have hK:zU SP (fV SP (mV P a1)):=Ql SP _;have a2:∀(a b:Code),(match ih nt (comp a) T M F k with
   |some ((.normal,T1,M1),F1,k1,q1)=>match ih nt (comp b) T1 M1 F1 k1 with
    |some (r,F2,k2,q2)=>some (r,F2,k2,q1++q2)
    |none=>none
   |r=>r)=some ((e,T',M'),F',k',q)->(match a1 a ⟨T,nt,M⟩ with|some (.normal,s')=>a1 b s'|r=>r)=some (e,⟨T',nt,M'⟩):=fun a b h=>by
  split at h
  ·rename_i T1 M1 F1 k1 q1 hx;split at h
   ·rename_i r F2 k2 q2 hy;simp only [Option.some.injEq,Prod.mk.injEq] at h;obtain⟨rfl,_,_,rfl⟩:=h;rw[hi _ _ _ _ _ _ _ _ _ _ _ _ hx hq.left];exact hi _ _ _ _ _ _ _ _ _ _ _ _ hy hq.right
   ·cases h
  ·rename_i hn;rw[hi _ _ _ _ _ _ _ _ _ _ _ _ h hq];cases e with
   |normal=>exact absurd h (hn _ _ _ _ _)
   |exit i=>rfl
   |ret=>rfl
   |goto l=>rfl
 cases c with
 |skip=>
  simp only [comp,oC,Option.some.injEq,Prod.mk.injEq] at h
  obtain⟨⟨rfl,rfl,rfl⟩,_⟩:=h
  rfl
 |exit id=>
  simp only [comp,oC,Option.some.injEq,Prod.mk.injEq] at h
  obtain⟨⟨rfl,rfl,rfl⟩,_⟩:=h
  rfl
 |ret=>
  simp only [comp,oC,Option.some.injEq,Prod.mk.injEq] at h
  obtain⟨⟨rfl,rfl,rfl⟩,_⟩:=h
  rfl
 |label l=>
  simp only [comp,oC,Option.some.injEq,Prod.mk.injEq] at h
  obtain⟨⟨rfl,rfl,rfl⟩,_⟩:=h
  rfl
 |goto l=>
  simp only [comp,oC,Option.some.injEq,Prod.mk.injEq] at h
  obtain⟨⟨rfl,rfl,rfl⟩,_⟩:=h
  rfl
 |seq a b=>exact a2 a b h
 |loop b=>exact a2 b (.loop b) h
 |cond x a b=>
  simp only [comp,oC] at h
  simp only [qY]
  split at h
  ·rename_i an F1 _;split at h
   ·rename_i v t hx ha;split at h
    ·rename_i r F2 k2 q2 hy;simp only [Option.some.injEq,Prod.mk.injEq] at h;obtain⟨rfl,_,_,rfl⟩:=h;have h1:=hq _ (List.mem_cons_self ..);simp only [OQ.holds,Qu.holds] at h1;rw[ha] at h1;cases h1;rw[hx];have h2:fS P SP q2:=fun p hp=>hq p (List.mem_cons_of_mem _ hp)
     cases v<;>exact hi _ _ _ _ _ _ _ _ _ _ _ _ hy h2
    ·cases h
   ·cases h
  ·split at h
   ·rename_i t hx;rw[hx];cases t<;>exact hi _ _ _ _ _ _ _ _ _ _ _ _ h hq
   ·cases h
 |block id b=>
  simp only [comp,oC] at h
  simp only [qY]
  cases he:eX id tb<;>simp only [he,cond_true,cond_false] at h
  ·rw[hB id he];simp only;split at h
   ·rename_i i T1 M1 r hx;obtain⟨F1,k1,q1⟩:=r;cases hb:Nat.beq i id<;>simp only [hb,cond_true,cond_false,Option.some.injEq,Prod.mk.injEq] at h;all_goals
     obtain⟨⟨rfl,rfl,rfl⟩,_,_,rfl⟩:=h
     rw[hi _ _ _ _ _ _ _ _ _ _ _ _ hx hq]
     simp only [hb,cond_true,cond_false]
   ·rename_i hn;rw[hi _ _ _ _ _ _ _ _ _ _ _ _ h hq];cases e with
    |exit i=>exact absurd h (hn _ _ _ _)
    |normal=>rfl
    |ret=>rfl
    |goto l=>rfl
  ·split at h
   ·rename_i ks e1 T1 M1 F1 _;simp only [Option.some.injEq,Prod.mk.injEq] at h;obtain⟨⟨rfl,rfl,rfl⟩,_,_,rfl⟩:=h;obtain⟨g,h1,h2⟩:=hq _ (List.mem_singleton.2 rfl);rw[h1];exact h2 b T rfl rfl
   ·cases h
 |scope c=>
  simp only [comp,oC] at h
  have h':ih nt (comp c) T M F k=some ((e,T',M'),F',k',q)/\∀l,e≠ .goto l:=by
   split at h
   ·cases h
   ·rename_i hn;refine⟨h,fun l hl=>?_⟩;subst hl;exact hn _ _ _ _ h
  have hx:=hi _ _ _ _ _ _ _ _ _ _ _ _ h'.1 hq
  show tL a1 c 100000 c ⟨T,nt,M⟩=_
  unfold tL
  rw[hx]
  cases e with
  |goto l=>exact absurd rfl (h'.2 l)
  |normal=>rfl
  |ret=>rfl
  |exit i=>rfl
 |rangeFunc _ _ _ _=>cases h
 |refuse _=>cases h
 |region id ops draw=>
  cases draw with
  |false=>
   simp only [comp,cond_false,oC] at h
   split at h
   ·rename_i T1 M1 r hs;obtain⟨F1,k1,q1⟩:=r;simp only [Option.some.injEq,Prod.mk.injEq] at h;obtain⟨⟨rfl,rfl,rfl⟩,_,_,rfl⟩:=h;simp only [qY,cond_false,pJ hK _ _ _ _ _ _ _ _ _ _ hs hq]
   ·cases h
  |true=>
   have a3:kY ops=true/\oV P GL (fV SP (mV P a1)) ops ⟨T,nt,M⟩=some ⟨T',nt,M'⟩->qY P GL SP a1 (.region id ops true) ⟨T,nt,M⟩=some (.normal,⟨T',nt,M'⟩):=fun⟨h2,h3⟩=>by
    simp only [qY,cond_true,h2,h3]
   have h':oC P GL tb ih nt (Ou ops) T M F k=some ((e,T',M'),F',k',q):=h
   have a0:oC P GL tb ih nt (Yp ops) T M F k=some ((e,T',M'),F',k',q)->qY P GL SP a1 (.region id ops true) ⟨T,nt,M⟩=some (e,⟨T',nt,M'⟩):=fun h=>by
    unfold Yp at h;cases hlx:kY ops<;>simp only [hlx,cond_true,cond_false] at h
    ·cases h
    simp only [oC] at h;split at h
    ·rename_i T1 M1 r hs;obtain⟨F1,k1,q1⟩:=r;simp only [Option.some.injEq,Prod.mk.injEq] at h;obtain⟨⟨rfl,rfl,rfl⟩,_,_,rfl⟩:=h;exact a3 (Ie hK hs hq)
    ·cases h
   unfold Ou at h'
   cases hc:(kY ops&&Nx (lJ ops.toList (bK ops.toList []) ops.toList (bK ops.toList []) 0))<;>simp only [hc,cond_true,cond_false] at h'
   ·exact a0 h'
   ·simp only [Bool.and_eq_true] at hc;have a5:=Gk hc.2;split at h'
    ·rename_i hlf;cases ht:pR ops.toList (bK ops.toList []) 0 []<;>simp only [ht,cond_true,cond_false] at h'
     ·exact a0 h'
     ·simp only [oC] at h';split at h'
      ·rename_i T1 M1 r hs;obtain⟨F1,k1,q1⟩:=r;simp only [Option.some.injEq,Prod.mk.injEq] at h';obtain⟨⟨rfl,rfl,rfl⟩,_,_,rfl⟩:=h';refine a3 ⟨hc.1,?_⟩;have h2:=pJ hK _ _ _ _ _ _ _ _ _ _ hs hq;simp only [oV,hlf,rW,a5];exact(kD (n0:=0) hA _ _ 0 [] [] _ _ ht (fun d hd=>by cases hd) (fun j _=>by rw[Nat.zero_add]) h2).1
      ·cases h'
    ·rename_i f hlf;cases ht:(pR ops.toList.dropLast (bK ops.toList []) 0 []&&Nx (uV ops.toList (bK ops.toList [])))<;>simp only [ht,cond_true,cond_false] at h'
     ·exact a0 h'
     ·simp only [Bool.and_eq_true] at ht;have a4:=Gk ht.2;have ht:=ht.1;unfold Nl at h';split at h'
      ·rename_i t x y hop;simp only [oC] at h';split at h'
       ·rename_i T1 M1 r hs;obtain⟨F1,k1,q1⟩:=r;simp only [Option.some.injEq,Prod.mk.injEq] at h';obtain⟨⟨rfl,rfl,rfl⟩,_,_,rfl⟩:=h';exact a3 ⟨hc.1,Lb hA hK a4 hlf hop ht hs hq⟩
       ·cases h'
      ·cases h'
theorem tY(hN:eJ P)(hm:P.follows .mixedOrders=true){tb:List Nat}(hB:∀id,eX id tb=false->SP.blocks id=none)(hS:∀B,cS P GL B SP):∀n,OOk P SP (oB P GL tb n) (Cb P GL SP n)
 |0=>fun nt c T M F k e T' M' F' k' q h _=>by cases h
 |n+1=>Ld hB (tY hN hm hB hS n) (yI (hS 0) (xG hN hm (hS 0) n))
end exec
end Go.Am
end

noncomputable section
namespace Go.Am
open Go
variable{P:Program}{GL:List Nat}{B:Bd}{SP:dC}
structure Ev(P:Program)(GL:List Nat)(f:FuncId)(args:List Value)(M:aB)(v:Value)(M':aB):Prop where
 abs:∃L,mA M M' L
 run:∀B φ w,hI P GL B φ M w->jP φ M M'->∀args':Array Value,cE φ args args'.toList->
  Calls P f args' w fun e w'=>∃L φ' v',e= .returned v'/\M'.log=L++M.log/\Post P GL B φ φ' M M' L w w'/\bH φ' v v'
theorem Ev.of_arun(hN:eJ P)(hm:P.follows .mixedOrders=true)(hS:∀B,cS P GL B SP){n:Nat}{f:FuncId}{args:List Value}{M M':aB}{v:Value}(h:arun P GL SP n f args M=some (v,M')):Ev P GL f args M v M':=
 ⟨xG hN hm (hS 0) n f args M v M' h,fun B φ w hR hG args' ha=>rY hN hm (hS B) n h hR hG args' ha⟩
open Classical in
def pick(K:List Value->aB->Value->aB->Prop):List Value->aB->Option (Value×aB):=fun args M=>if h:∃r:Value×aB,K args M r.1 r.2 then some h.choose else none
theorem Gq{K:List Value->aB->Value->aB->Prop}{args:List Value}{M:aB}(h:∃v M',K args M v M'):∃v M',pick K args M=some (v,M')/\K args M v M':=by obtain⟨v,M',h⟩:=h;have h':∃r:Value×aB,K args M r.1 r.2:=⟨(v,M'),h⟩;exact⟨h'.choose.1,h'.choose.2,by unfold pick;rw[dif_pos h'],h'.choose_spec⟩
theorem Pc{K:List Value->aB->Value->aB->Prop}{args:List Value}{M M':aB}{v:Value}(h:pick K args M=some (v,M')):K args M v M':=by
 unfold pick at h;split at h
 ·rename_i h';have:=h'.choose_spec;rw[Option.some.inj h] at this;exact this
 ·cases h
theorem dR.pick{f:FuncId}{K:List Value->aB->Value->aB->Prop}(hK:∀args M v M',K args M v M'->Ev P GL f args M v M'):dR P GL B f (Go.Am.pick K):=
 ⟨fun _ _ _ _ h=>(hK _ _ _ _ (Pc h)).abs,fun _ _ _ _ h φ w=>(hK _ _ _ _ (Pc h)).run B φ w⟩
structure Bx(P:Program)(GL:List Nat)(id:Nat)(c:Code)(s:St)(e:cT)(s':St):Prop where
 abs:∃L,mA s.M s'.M L
 run:∀B,tD P GL B s s' e fun Q a w=>(Code.block id c).wp P Q a w
open Classical in
def bone(b:QC)(nt:Nat)(ks:List Nat)(vs:List (Option Value))(M:aB)(e:cT)(T':Tr Value)(M':aB):Code->St->Option (cT×St):=fun c s=>
 if comp c=b/\s.n=nt/\ks.map s.T.get=vs/\s.M=M then some (e,⟨T',nt,M'⟩) else none
theorem sO.bone{id:Nat}{b:QC}{nt:Nat}{ks:List Nat}{vs:List (Option Value)}{M M':aB}{e:cT}{T':Tr Value}(h:∀c T,comp c=b->ks.map T.get=vs->Bx P GL id c ⟨T,nt,M⟩ e ⟨T',nt,M'⟩):sO P GL B id (Go.Am.bone b nt ks vs M e T' M'):=by
 have key:∀c s e1 s',Go.Am.bone b nt ks vs M e T' M' c s=some (e1,s')->Bx P GL id c s e1 s':=fun c s e1 s' hb=>by
  unfold Go.Am.bone at hb;split at hb
  ·rename_i hh;cases hb;obtain⟨h1,h2,h3,h4⟩:=hh;have:=h c s.T h1 h3;rw[<-h4,<-h2] at this;rw[<-h2];exact this
  ·cases hb
 exact⟨fun c s e1 s' hb=>(key c s e1 s' hb).abs,fun c s e1 s' hb=>(key c s e1 s' hb).run B⟩
theorem Na{l:List (FuncId×(List Value->aB->Option (Value×aB)))}{bl:List (Nat×(Code->St->Option (cT×St)))}{id:Nat}{b:QC}{nt:Nat}{ks:List Nat}{vs:List (Option Value)}{M M':aB}{e:cT}{T':Tr Value}(hb:qB bl id=some (bone b nt ks vs M e T' M')):
  (OQ.blk id b nt ks vs M e T' M').holds P (uG l bl):=by
 refine⟨_,hb,fun c T h1 h2=>?_⟩
 unfold bone
 rw[if_pos ⟨h1,rfl,h2,rfl⟩]
def fr:List (Nat×Value)->Tr Value
 | []=> .nil
 |p::l=>(fr l).set p.1 (some p.2)
theorem Sx:∀{l:List (Nat×Value)} {t:Nat} {v:Value},(fr l).get t=some v->(t,v)∈l
 | [],t,v,h=>by simp [fr,Tr.get] at h
 |p::l,t,v,h=>by
  simp only [fr,Tr.get_set] at h;by_cases ht:t=p.1
  ·rw[if_pos ht] at h;cases h;rw[ht];exact List.mem_cons_self ..
  ·rw[if_neg ht] at h;exact List.mem_cons_of_mem _ (Sx h)
def wZ(T1 T2:Tr Value):Prop:=∀t v,T2.get t=some v->T1.get t=some v
theorem wZ.fr{T:Tr Value}:∀{l:List (Nat×Value)},(l.map (·.1)).map T.get=l.map (fun p=>some p.2)->wZ T (Go.Am.fr l):=fun{l} h t v ht=>by
 have hm:=Sx ht;have:∀(l:List (Nat×Value)),(l.map (·.1)).map T.get=l.map (fun p=>some p.2)->∀p∈l,T.get p.1=some p.2:=fun l=>by
  induction l with
  |nil=>intro _ p hp;cases hp
  |cons a l ih=>
   intro h p hp
   simp only [List.map_cons,List.cons.injEq] at h
   rcases List.mem_cons.1 hp with rfl|hp
   ·exact h.1
   ·exact ih h.2 p hp
 exact this l h _ hm
theorem wZ.rel{φ:dX}{T1 T2:Tr Value}{n:Nat}{tmps:Array Value}(h:wZ T1 T2)(hT:gO φ T1 n tmps):gO φ T2 n tmps:=⟨hT.1,fun t v ht=>hT.2 t v (h t v ht)⟩
def Rd(P:Program)(GL:List Nat)(b:QC)(nt:Nat)(T:Tr Value)(M:aB)(e:cT)(T1:Tr Value)(M1:aB):Prop:=
 ∃SP n,(∀B,cS P GL B SP)/\∀c,comp c=b->Cb P GL SP n c ⟨T,nt,M⟩=some (e,⟨T1,nt,M1⟩)
inductive bI(P:Program)(GL:List Nat)(b:QC)(nt:Nat):Tr Value->aB->cT->Tr Value->aB->Prop where
 |stop {T:Tr Value} {M:aB} {e:cT} {T1:Tr Value} {M1:aB} {T':Tr Value}:Rd P GL b nt T M e T1 M1->e≠ .normal->wZ T1 T'->bI P GL b nt T M e T' M1
 |step {T:Tr Value} {M:aB} {T1:Tr Value} {M1:aB} {T2:Tr Value} {e:cT} {T':Tr Value} {M':aB}:Rd P GL b nt T M .normal T1 M1->wZ T1 T2->bI P GL b nt T2 M1 e T' M'->bI P GL b nt T M e T' M'
theorem bI.says(hN:eJ P)(hm:P.follows .mixedOrders=true){b:QC}{nt:Nat}{T:Tr Value}{M:aB}{e:cT}{T':Tr Value}{M':aB}(h:bI P GL b nt T M e T' M'){c:Code}(hc:comp c=b):
  (∃L,mA M M' L)/\e≠ .normal/\∀B,∃N,tD P GL B ⟨T,nt,M⟩ ⟨T',nt,M'⟩ e fun Q a w=>Code.rounds P c Q N a w:=by
 induction h with
 |stop hr he hs=>
  rename_i T M e T1 M1 T'
  obtain⟨SP,n,hS,hx⟩:=hr
  refine⟨(tH hN hm (hS 0) n).abs _ _ _ _ (hx c hc),he,fun B=>⟨0+1,fun φ a w Q hR hG hT hk=>?_⟩⟩
  show Code.rounds P c Q (0+1) a w
  rw[rounds_succ]
  refine(tH hN hm (hS B) n).run _ _ _ _ (hx c hc) φ a w _ hR hG hT fun L φ' a' w' h1 h2 h3 h4=>?_
  have hq:=hk L φ' a' w' h1 h2 (hs.rel h3) h4
  cases e with
  |normal=>exact absurd rfl he
  |exit i=>exact hq
  |ret=>exact hq
  |goto i=>exact hq
 |step hr hs _ ih=>
  rename_i T M T1 M1 T2 e T' M' _
  obtain⟨SP,n,hS,hx⟩:=hr
  obtain⟨⟨L2,a1⟩,he,a0⟩:=ih
  obtain⟨L1,a3⟩:=(tH hN hm (hS 0) n).abs _ _ _ _ (hx c hc)
  refine⟨⟨_,a3.trans a1⟩,he,fun B=>?_⟩
  obtain⟨N,a0⟩:=a0 B
  refine⟨N+1,fun φ a w Q hR hG hT hk=>?_⟩
  show Code.rounds P c Q (N+1) a w
  rw[rounds_succ]
  refine(tH hN hm (hS B) n).run _ _ _ _ (hx c hc) φ a w _ hR (hG.sub a1.next) hT fun L φ' a' w' h1 h2 h3 h4=>?_
  show Code.rounds P c Q N a' w'
  refine a0 φ' a' w' Q h2.rel (h2.good hG) (hs.rel h3) fun L' φ2 a2 w2 k1 k2 k3 k4=>?_
  exact hk (L'++L) φ2 a2 w2 (by rw[k1];show L'++M1.log=_;rw[h1,List.append_assoc]) (h2.trans k2) k3 (k4.trans h4)
theorem Bx.loop(hN:eJ P)(hm:P.follows .mixedOrders=true){c:Code}{b:QC}{nt id:Nat}{T T0:Tr Value}{M:aB}{e:cT}{T':Tr Value}{M':aB}(hc:comp c=b)(hs:wZ T T0)(h:bI P GL b nt T0 M e T' M'):
  Bx P GL id (.loop c) ⟨T,nt,M⟩ (yR id e) ⟨T',nt,M'⟩:=by
 obtain⟨hA,he,a0⟩:=h.says hN hm hc
 refine⟨hA,fun B=>?_⟩
 obtain⟨N,a0⟩:=a0 B
 intro φ a w Q hR hG hT hk
 refine wp_block (wp_loop_rounds _ (a0 φ a w _ hR hG (hs.rel hT) fun L φ' a' w' h1 h2 h3 h4=>?_))
 have hq:=hk L φ' a' w' h1 h2 h3 h4
 cases e with
 |normal=>exact absurd rfl he
 |ret=>exact hq
 |goto i=>exact hq
 |exit i=>
  simp only [yR] at hq
  cases hb:Nat.beq i id<;>rw[hb] at hq<;>simp only [cond_true,cond_false] at hq
  ·have a1:i≠id:=by intro x;simp [x] at hb
   simp only [Sq,Exit.inBlock,a1,if_false];exact hq
  ·have he:i=id:=xBa hb;simp only [Sq,Exit.inBlock,he,if_true];exact hq
theorem Px{c:Code}{b:QC}(h:comp c= .loop b):∃c',c= .loop c'/\comp c'=b:=by
 cases c with
 |loop c'=>simp only [comp,QC.loop.injEq] at h;exact⟨c',rfl,h⟩
 |region id ops draw=>
  exfalso
  simp only [comp] at h
  cases draw<;>simp only [cond_true,cond_false] at h
  ·cases h
  ·have a0:Yp ops= .loop b->False:=fun hx=>by unfold Yp at hx;cases hl:kY ops<;>simp only [hl,cond_true,cond_false] at hx<;>cases hx
   unfold Ou at h;cases hc:(kY ops&&Nx (lJ ops.toList (bK ops.toList []) ops.toList (bK ops.toList []) 0))<;>simp only [hc,cond_true,cond_false] at h
   ·exact a0 h
   ·split at h
    ·cases ht:pR ops.toList (bK ops.toList []) 0 []<;>simp only [ht,cond_true,cond_false] at h
     ·exact a0 h
     ·cases h
    ·cases ht:(pR ops.toList.dropLast (bK ops.toList []) 0 []&&Nx (uV ops.toList (bK ops.toList [])))<;>simp only [ht,cond_true,cond_false] at h
     ·exact a0 h
     ·unfold Nl at h;split at h<;>cases h
 |skip=>cases h
 |seq a b=>cases h
 |cond x a b=>cases h
 |block i b=>cases h
 |exit i=>cases h
 |ret=>cases h
 |label l=>cases h
 |goto l=>cases h
 |scope c=>cases h
 |rangeFunc _ _ _ _=>cases h
 |refuse _=>cases h
theorem sO.loop(hN:eJ P)(hm:P.follows .mixedOrders=true){id:Nat}{b:QC}{nt:Nat}{l:List (Nat×Value)}{M M':aB}{e:cT}{T':Tr Value}(h:bI P GL b nt (Go.Am.fr l) M e T' M'):
  sO P GL B id (Go.Am.bone (.loop b) nt (l.map (·.1)) (l.map fun p=>some p.2) M (yR id e) T' M'):=
 sO.bone fun c T h1 h2=>by
  obtain⟨c',rfl,hc⟩:=Px h1;exact Bx.loop hN hm hc (wZ.fr h2) h
theorem Ar.told(hN:eJ P)(hm:P.follows .mixedOrders=true){f:FuncId}{fn:Func}{q:QC}{tb:List Nat}{n:Nat}{args:List Value}{M M':aB}{v:Value}{F:List OF}{e:cT}{qs:oP}
  (hf:P.funcs[f]?=some fn) (hq:aF P f=some q) (hl:Nat.ble args.length fn.ntmps=true) (hS:∀B,cS P GL B SP) (hB:∀id,eX id tb=false->SP.blocks id=none)
  (hx:(oB P GL tb n fn.ntmps q (mR args 0 .nil) M F 0).map (fun r=>(r.1.1,mD P fn ⟨r.1.2.1,fn.ntmps,r.1.2.2⟩,r.1.2.2,r.2.2.2))=some (e,some v,M',qs)) (he:e= .ret\/e= .normal) (hh:fS P SP qs):
  arun P GL SP n f args M=some (v,M'):=by
 cases hr:oB P GL tb n fn.ntmps q (mR args 0 .nil) M F 0 with
 |none=>rw[hr] at hx;cases hx
 |some r=>
  obtain⟨⟨e1,T1,M1⟩,F1,k1,q1⟩:=r
  rw[hr] at hx
  simp only [Option.map_some,Option.some.injEq,Prod.mk.injEq] at hx
  obtain⟨rfl,hv,rfl,rfl⟩:=hx
  unfold aF at hq
  rw[hf] at hq
  cases hb:fn.body with
  |none=>simp [hb] at hq
  |some c=>
   simp [hb] at hq
   rw[<-hq] at hr
   have hx:=tY hN hm hB hS n _ _ _ _ _ _ _ _ _ _ _ _ hr hh
   show mV P (Cb P GL SP n) f args M=_
   unfold mV
   simp only [hf,hb,hl,cond_true,hx]
   rcases he with rfl|rfl<;>simp only [hv]
theorem Ev.told(hN:eJ P)(hm:P.follows .mixedOrders=true){f:FuncId}{fn:Func}{q:QC}{tb:List Nat}{n:Nat}{args:List Value}{M M':aB}{v:Value}{F:List OF}{e:cT}{qs:oP}
  (hf:P.funcs[f]?=some fn) (hq:aF P f=some q) (hl:Nat.ble args.length fn.ntmps=true) (hS:∀B,cS P GL B SP) (hB:∀id,eX id tb=false->SP.blocks id=none)
  (hx:(oB P GL tb n fn.ntmps q (mR args 0 .nil) M F 0).map (fun r=>(r.1.1,mD P fn ⟨r.1.2.1,fn.ntmps,r.1.2.2⟩,r.1.2.2,r.2.2.2))=some (e,some v,M',qs)) (he:e= .ret\/e= .normal) (hh:fS P SP qs):
  Ev P GL f args M v M':=Ev.of_arun hN hm hS (Ar.told hN hm hf hq hl hS hB hx he hh)
theorem Rd.told(hN:eJ P)(hm:P.follows .mixedOrders=true){b:QC}{tb:List Nat}{n nt:Nat}{T:Tr Value}{M M':aB}{F:List OF}{e:cT}{qs:oP}{ks:List Nat}{vs:List (Option Value)}
  (hS:∀B,cS P GL B SP) (hB:∀id,eX id tb=false->SP.blocks id=none)
  (hx:(oB P GL tb n nt b T M F 0).map (fun r=>(r.1.1,ks.map r.1.2.1.get,r.1.2.2,r.2.2.2))=some (e,vs,M',qs)) (hh:fS P SP qs):
  ∃T1,Rd P GL b nt T M e T1 M'/\ks.map T1.get=vs:=by
 cases hr:oB P GL tb n nt b T M F 0 with
 |none=>rw[hr] at hx;cases hx
 |some r=>
  obtain⟨⟨e1,T1,M1⟩,F1,k1,q1⟩:=r
  rw[hr] at hx
  simp only [Option.map_some,Option.some.injEq,Prod.mk.injEq] at hx
  obtain⟨rfl,hv,rfl,rfl⟩:=hx
  refine⟨T1,⟨SP,n,hS,fun c hc=>?_⟩,hv⟩
  rw[<-hc] at hr
  exact tY hN hm hB hS n _ _ _ _ _ _ _ _ _ _ _ _ hr hh
theorem Yd{K:List Value->aB->Value->aB->Prop}{f:FuncId}{args:List Value}{M M':aB}{v:Value}(hs:SP.calls f=some (pick K))(hp:pick K args {M with log:=[]}=some (v,M'))(hl:kG M.next M'.log=[]):
  OQ.holds P SP (.cl f args M (1,.val v,{M' with log:=M.log,hide:=M.hide})):=by
 refine⟨?_,by simp⟩
 unfold lB jN fV
 rw[hs]
 simp only [hp,hl]
structure Ext(M M':aB):Prop where
 next:M.next<=M'.next
 hide:M'.hide=M.hide
 get:∀id,id<M.next->M'.get id=M.get id
 log:∃L,M'.log=L++M.log/\∀t∈L,M.next<=t
theorem Ext.refl(M:aB):Ext M M:=⟨Nat.le_refl _,rfl,fun _ _=>rfl,[],rfl,fun t h=>by cases h⟩
theorem Ext.trans{M M1 M2:aB}(h:Ext M M1)(k:Ext M1 M2):Ext M M2:=
 ⟨Nat.le_trans h.next k.next,k.hide.trans h.hide,fun id hid=>(k.get id (xAf hid h.next)).trans (h.get id hid),by
  obtain⟨L1,h1,h2⟩:=h.log;obtain⟨L2,k1,k2⟩:=k.log;exact⟨L2++L1,by rw[k1,h1,List.append_assoc],fun t ht=>by
   rcases List.mem_append.1 ht with ht|ht
   ·exact Nat.le_trans h.next (k2 t ht)
   ·exact h2 t ht⟩⟩
theorem Ext.old{M M':aB}(h:Ext M M'){id:Nat}{b:aR}(hg:M.get id=some b):M'.get id=some b:=by rw[h.get id (cB.1 hg).1];exact hg
theorem Cf{n:Nat}:∀{l:List Nat},(∀t∈l,n<=t)->kG n l=[]
 | [],_=>rfl
 |x::l,h=>by
  unfold kG;have:Nat.blt x n=false:=by
   cases hb:Nat.blt x n
   ·rfl
   ·have:=xAd hb;have:=h x (List.mem_cons_self ..);omega
  rw[this];exact Cf fun t ht=>h t (List.mem_cons_of_mem _ ht)
def back(M M':aB):aB:={M' with log:=M.log,hide:=M.hide}
theorem Jw{M M':aB}(h:M'.hide=M.hide)(id:Nat):(back M M').get id=M'.get id:=by unfold back aB.get aB.getA;simp only [h]
theorem Ext.back{M M':aB}(h:Ext {M with log:=[]} M'):Ext M (Go.Am.back M M'):=
 ⟨h.next,rfl,fun id hid=>by rw[Jw (M:=M) (M':=M') h.hide];exact h.get id hid,[],rfl,fun t h=>by cases h⟩
def aA(M:aB):Prop:=∀id,bD M.hide id=true->id<M.next
theorem mW{M:aB}(h:aA M)(b:aR)(hb:dS b=false:=by rfl):(M.alloc b).get M.next=some b:=
 zD (bN.2 ⟨Nat.lt_succ_self _,by
  cases hh:bD M.hide M.next with
  |false=>exact hh
  |true=>exact absurd (h _ hh) (Nat.lt_irrefl _),by simp only [aB.alloc];rw[Tr.get_set,if_pos rfl]⟩) hb
theorem Fv{M:aB}(b:aR){id:Nat}(hid:id<M.next):(M.alloc b).get id=M.get id:=by unfold aB.get aB.getA;have h1:Nat.blt id (M.alloc b).next=true:=Nat.ble_eq_true_of_le (by show id+1<=M.next+1;omega);have h2:Nat.blt id M.next=true:=Nat.ble_eq_true_of_le hid;rw[h1,h2];simp only [aB.alloc];rw[Tr.get_set,if_neg (by omega)]
theorem Ext.alloc(M:aB)(b:aR):Ext M (M.alloc b):=⟨Nat.le_succ _,rfl,fun id hid=>Fv b hid,[],rfl,fun t h=>by cases h⟩
theorem Lg{M:aB}{id:Nat}(b:Option aR)(h:id<M.next)(hh:bD M.hide id=false):(M.put id b).get id=Oi b:=by unfold aB.get aB.getA aB.put;simp only;rw[show Nat.blt id M.next=true from Nat.ble_eq_true_of_le h,hh];simp only [Bool.not_false,Bool.and_true,cond_true];rw[Tr.get_set,if_pos rfl]
theorem uT{M:aB}{id j:Nat}(b:Option aR)(h:j≠id):(M.put id b).get j=M.get j:=by unfold aB.get aB.getA aB.put;simp only;rw[Tr.get_set,if_neg h]
theorem Ext.put{M0 M:aB}(h:Ext M0 M){id:Nat}(b:Option aR)(hid:M0.next<=id):Ext M0 (M.put id b):=
 ⟨h.next,h.hide,fun j hj=>by rw[uT b (by omega)];exact h.get j hj,by
  obtain⟨L,h1,h2⟩:=h.log;exact⟨id::L,by show id::M.log=_;rw[h1];rfl,fun t ht=>by
   rcases List.mem_cons.1 ht with rfl|ht
   ·exact hid
   ·exact h2 t ht⟩⟩
theorem lS{t:TypeId}{a:Addr}{M:aB}{b:aR}{n:Nat}{l:List Value}(hd:(P.underlying t).map eC=some true)(hi:(P.info? t).map (·.size)=some n)(hg:M.get a.block=some b)(ht:dJ n (b.cs.drop a.off)=some l):bA P t a M=some (.agg l.toArray):=by
 unfold bA;cases hu:P.underlying t with
 |none=>rw[hu] at hd;cases hd
 |some d=>
  rw[hu] at hd
  simp only [Option.map_some,Option.some.injEq] at hd
  cases hj:P.info? t with
  |none=>rw[hj] at hi;cases hi
  |some i=>
   rw[hj] at hi
   simp only [Option.map_some,Option.some.injEq] at hi
   simp only [hg,hd,cond_true,hi,ht]
theorem aY{t:TypeId}{a:Addr}{M:aB}{b:aR}{v:Value}(hd:(P.underlying t).map eC=some false)(hg:M.get a.block=some b)(hc:b.cs[a.off]?=some v):bA P t a M=some v:=by
 unfold bA;cases hu:P.underlying t with
 |none=>rw[hu] at hd;cases hd
 |some d=>
  rw[hu] at hd
  simp only [Option.map_some,Option.some.injEq] at hd
  simp only [hg,hd,cond_false,hc]
theorem Pu{t:TypeId}{a:Addr}{v:Value}{M:aB}{b:aR}{n:Nat}(hi:(P.info? t).map (·.size)=some n)(hg:M.get a.block=some b)(hv:v.cells.toList.length=n)(hc:v.cells.toList.all isCell=true)(hw:b.wf<=a.off)(hl:a.off+n<=b.cs.length):
  eB P t a v M=some (M.put a.block (some {b with cs:=splice b.cs a.off v.cells.toList})):=by
 unfold eB
 cases hj:P.info? t with
 |none=>rw[hj] at hi;cases hi
 |some i=>
  rw[hj] at hi
  simp only [Option.map_some,Option.some.injEq] at hi
  simp only [hg,hv,hi,hc,Bool.and_true]
  rw[show Nat.beq n n=true by simp,Nat.ble_eq_true_of_le hw,Nat.ble_eq_true_of_le hl]
  rfl
end Go.Am
end
noncomputable section
namespace Go.Am
open Go
variable{P:Program}{GL:List Nat}{B:Bd}
end Go.Am
end

noncomputable section
namespace Go.Am
open Go
variable{P:Program}{GL:List Nat}{B:Bd}{SP:dC}
theorem Qf:fS P SP []:=fun p hp=>by cases hp
theorem Dd{x:OQ}{q:oP}(h:x.holds P SP)(hq:fS P SP q):fS P SP (x::q):=fun p hp=>by
 rcases List.mem_cons.1 hp with rfl|hp
 ·exact h
 ·exact hq p hp
theorem Iu{x t:Bool}(h:x=t):OQ.holds P SP (.q (.bool x) (uY t)):=by subst h;rfl
theorem Xv{i:Int}{n:Nat}{a:Fp}(h0:0<=i)(h1:i<n):OQ.holds P SP (.q (.inb i n) a):=by show Nq i n=true;simp [Nq,h0,h1]
theorem q_nz{q:Int}{a:Fp}(h:q≠0):OQ.holds P SP (.q (.nz q) a):=h
theorem lH{x:zV}{a:Fp}(h:x=some a)(ha:a.1≠0):OQ.holds P SP (.eq x a):=⟨h,ha⟩
theorem uC{t:TypeId}{a:Addr}{M Mx:aB}{v:Value}{k:Nat}(h:bA P t a M=some v):OQ.holds P SP (.q (.load t a M) (k,.val v,Mx)):=⟨v,rfl,h⟩
theorem dB{t:TypeId}{a:Addr}{v:Value}{M M1:aB}(h:eB P t a v M=some M1):OQ.holds P SP (.q (.store t a v M) (2,.skip,M1)):=⟨M1,rfl,h⟩
theorem iD{tys:List TypeId}{s x:Value}{M:aB}{a:Fp}(h:dM P tys s x M=some a)(ha:a.1≠0):OQ.holds P SP (.q (.append tys s x M) a):=⟨h,ha⟩
theorem Dy{K:List Value->aB->Value->aB->Prop}{f:FuncId}{args:List Value}{M M' M1:aB}{v:Value}(hs:SP.calls f=some (pick K))(hp:pick K args {M with log:=[]}=some (v,M'))(hl:kG M.next M'.log=[])(hb:back M M'=M1):
  OQ.holds P SP (.cl f args M (1,.val v,M1)):=by subst hb;exact Yd hs hp hl
theorem eA{l:List (FuncId×(List Value->aB->Option (Value×aB)))}{bl:List (Nat×(Code->St->Option (cT×St)))}{id:Nat}{b:QC}{nt:Nat}{ks:List Nat}{vs:List (Option Value)}{M M':aB}{e:cT}{T':Tr Value}(hb:qB bl id=some (bone b nt ks vs M e T' M')):
  OQ.holds P (uG l bl) (.blk id b nt ks vs M e T' M'):=Na hb
theorem aA.ext{M M':aB}(h:aA M)(hE:Ext M M'):aA M':=fun id hid=>xAf (h id (by rw[<-hE.hide];exact hid)) hE.next
theorem aA.log{M:aB}{l:List Nat}(h:aA M):aA {M with log:=l}:=h
theorem bG{M:aB}(hM:aA M)(blk:aR)(hm:dS blk=false:=by rfl):∃b M1,M.next=b/\M.alloc blk=M1/\M1.get b=some blk/\Ext M M1/\aA M1:=
 ⟨_,_,rfl,rfl,mW hM blk hm,Ext.alloc M blk,hM.ext (Ext.alloc M blk)⟩
theorem aX{t:TypeId}{b o:Nat}{v:Value}{M M0:aB}{blk:aR}{n:Nat}{new:List Value}(hE:Ext M0 M)(hb:M0.next<=b)(hM:aA M)(hi:(P.info? t).map (·.size)=some n)(hg:M.get b=some blk)(hv:v.cells.toList.length=n)(hc:v.cells.toList.all isCell=true)(hw:blk.wf<=o)(hl:o+n<=blk.cs.length)(hn:splice blk.cs o v.cells.toList=new):
  ∃M1,eB P t ⟨b,o,none⟩ v M=some M1/\M1.get b=some {blk with cs:=new}/\(∀id,id≠b->M1.get id=M.get id)/\Ext M0 M1/\aA M1/\M1.log=b::M.log:=by
 refine⟨_,Pu hi (a:=⟨b,o,none⟩) hg hv hc hw hl,?_,fun id hid=>uT _ hid,hE.put _ hb,hM,rfl⟩
 obtain⟨k1,k2,_,k4⟩:=cB.1 hg
 rw[Lg _ k1 k2,hn]
 have h5:dS {blk with cs:=new}=false:=k4
 simp [Oi,h5]
def lK(P:Program)(GL:List Nat)(f:FuncId)(Q:List Value->aB->Value->aB->Prop):List Value->aB->Value->aB->Prop:=fun args M v M'=>Ev P GL f args M v M'/\Ext M M'/\Q args M v M'
theorem lK.ok{f:FuncId}{Q:List Value->aB->Value->aB->Prop}(B:Bd):dR P GL B f (pick (lK P GL f Q)):=dR.pick fun _ _ _ _ h=>h.1
theorem Ye{f:FuncId}{Q:List Value->aB->Value->aB->Prop}{args:List Value}{M:aB}(hM:aA M)(hK:∃v M',lK P GL f Q args {M with log:=[]} v M'):
  ∃v M' M1,pick (lK P GL f Q) args {M with log:=[]}=some (v,M')/\kG M.next M'.log=[]/\back M M'=M1/\Ext M M1/\aA M1/\Q args {M with log:=[]} v M'/\∀id,M1.get id=M'.get id:=by
 obtain⟨v,M',h1,_,h3,h4⟩:=Gq hK
 obtain⟨L,k1,k2⟩:=h3.log
 refine⟨v,M',_,h1,?_,rfl,h3.back,hM.ext h3.back,h4,Jw h3.hide⟩
 rw[k1]
 simp only [List.append_nil]
 exact Cf k2
theorem rQ:∀(l r:List Value),dJ l.length (l++r)=some l
 | [],_=>by simp [dJ]
 |v::l,r=>by simp [dJ,rQ l r]
end Go.Am
end
noncomputable section
namespace Go.Am
open Go
variable{P:Program}{GL:List Nat}{B:Bd}{SP:dC}
def QC.loopIn(id:Nat):QC->Option QC
 | .seq a b=>match a.loopIn id with|some r=>some r|none=>b.loopIn id
 | .cond _ a b=>match a.loopIn id with|some r=>some r|none=>b.loopIn id
 | .block i b=>bif Nat.beq i id then(match b with| .loop c=>some c|_=>none) else b.loopIn id
 | .loop b=>b.loopIn id
 | .scope b=>b.loopIn id
 |_=>none
def QC.loopAt(q:QC)(id:Nat):QC:=(q.loopIn id).getD .bad
theorem Ev.told_tmp(hN:eJ P)(hm:P.follows .mixedOrders=true){f:FuncId}{fn:Func}{q:QC}{tb:List Nat}{n k:Nat}{args:List Value}{M M':aB}{v:Value}{F:List OF}{qs:oP}
  (hf:P.funcs[f]?=some fn) (hq:aF P f=some q) (hl:Nat.ble args.length fn.ntmps=true) (hr:fn.results= #[.tmp k]) (hS:∀B,cS P GL B SP) (hB:∀id,eX id tb=false->SP.blocks id=none)
  (hx:(oB P GL tb n fn.ntmps q (mR args 0 .nil) M F 0).map (fun r=>(r.1.1,r.1.2.1.get k,r.1.2.2,r.2.2.2))=some (.ret,some v,M',qs)) (hh:fS P SP qs):
  Ev P GL f args M v M':=by
 refine Ev.told hN hm hf hq hl hS hB (e:= .ret) (n:=n) (F:=F) (qs:=qs) ?_ (.inl rfl) hh
 cases a0:oB P GL tb n fn.ntmps q (mR args 0 .nil) M F 0 with
 |none=>rw[a0] at hx;cases hx
 |some r=>
  rw[a0] at hx
  simp only [Option.map_some,Option.some.injEq,Prod.mk.injEq] at hx⊢
  refine⟨hx.1,?_,hx.2.2⟩
  unfold mD
  rw[hr]
  simp only [Ac,Js,hx.2.1]
theorem Ev.told_cell(hN:eJ P)(hm:P.follows .mixedOrders=true){f:FuncId}{fn:Func}{q:QC}{tb:List Nat}{n k b o:Nat}{t:TypeId}{args:List Value}{M M':aB}{v:Value}{F:List OF}{qs:oP}
  (hf:P.funcs[f]?=some fn) (hq:aF P f=some q) (hl:Nat.ble args.length fn.ntmps=true) (hr:fn.results= #[.cell k t]) (hS:∀B,cS P GL B SP) (hB:∀id,eX id tb=false->SP.blocks id=none)
  (hx:(oB P GL tb n fn.ntmps q (mR args 0 .nil) M F 0).map (fun r=>(r.1.1,r.1.2.1.get k,r.1.2.2,r.2.2.2))=some (.ret,some (.pointer (some ⟨b,o,none⟩)),M',qs)) (hv:bA P t ⟨b,o,none⟩ M'=some v) (hh:fS P SP qs):
  Ev P GL f args M v M':=by
 refine Ev.told hN hm hf hq hl hS hB (e:= .ret) (n:=n) (F:=F) (qs:=qs) ?_ (.inl rfl) hh
 cases a0:oB P GL tb n fn.ntmps q (mR args 0 .nil) M F 0 with
 |none=>rw[a0] at hx;cases hx
 |some r=>
  rw[a0] at hx
  simp only [Option.map_some,Option.some.injEq,Prod.mk.injEq] at hx⊢
  refine⟨hx.1,?_,hx.2.2⟩
  unfold mD
  rw[hr]
  simp only [Ac,Js,hx.2.1,hx.2.2.1,hv]
theorem aB.lt_of_get{M:aB}{id:Nat}{b:aR}(h:M.get id=some b):id<M.next:=(cB.1 h).1
end Go.Am
end
noncomputable section
namespace Go.Am
open Go
theorem bQ{id k:Nat}{g:Code->St->Option (cT×St)}(h:eX id [k]=false):qB [(k,g)] id=none:=by
 unfold qB;have:Nat.beq id k=false:=by
  cases hb:Nat.beq id k
  ·rfl
  ·have:=xBa hb;subst this;simp [eX] at h
 rw[this];rfl
end Go.Am
end
noncomputable section
namespace Go.Am
open Go
theorem Ev.of_spec{P:Program}{GL:List Nat}{f:FuncId}{g:List Value->aB->Option (Value×aB)}{args:List Value}{M M':aB}{v:Value}(h:∀B,dR P GL B f g)(hg:g args M=some (v,M')):Ev P GL f args M v M':=
 ⟨(h 0).abs args M v M' hg,fun B=>(h B).run args M v M' hg⟩
end Go.Am
end
noncomputable section
namespace Go.Am
open Go
variable{P:Program}
def elemOf(P:Program)(t:TypeId):Option (Nat×Nat×Bool):=(P.info? t).map fun e=>(e.size,e.bytes,Ja e)
theorem rM{e:TypeInfo}{w y n:Nat}(h:(e.size,e.bytes,Ja e)=(w,y,true))(hw:0<w)(hy:y<=1024)(hn:n<=1073741824):vM e n=true:=by
 simp only [Prod.mk.injEq] at h;obtain⟨rfl,rfl,h3⟩:=h;unfold vM;rw[h3];have h1:Nat.beq e.size 0=false:=by
  cases hb:Nat.beq e.size 0
  ·rfl
  ·have:=xBa hb;omega
 have h2:n*e.bytes<=1073741824*1024:=Nat.mul_le_mul hn hy;rw[h1,Nat.ble_eq_true_of_le (show n<=2^40 by omega),Nat.ble_eq_true_of_le (show n*e.bytes<=2^40 by omega),Nat.ble_eq_true_of_le (show e.bytes<=2^40 by omega)];rfl
theorem append_nil{sT xT elem:TypeId}{M:aB}{bx o c w y:Nat}{blk:aR}{new:List Value}(hs:P.underlying sT=some (.slice elem))(hx:P.underlying xT=some (.slice elem))(he:elemOf P elem=some (w,y,true))(hw:0<w)(hy:y<=1024)
  (hg:M.get bx=some blk) (ht:dJ w (blk.cs.drop o)=some new) (hc:new.all isCell=true) (hl:new.length=w):
  dM P [sT,xT] (.slice none 0 0) (.slice (some ⟨bx,o,none⟩) 1 c) M=some (1,.val (.slice (some ⟨M.next,0,none⟩) 1 1),M.alloc ⟨new,elem,w,0,true⟩):=by
 unfold elemOf at he
 cases hi:P.info? elem with
 |none=>rw[hi] at he;cases he
 |some e=>
  rw[hi] at he
  simp only [Option.map_some,Option.some.injEq] at he
  have hr:=rM (n:=1) he hw hy (by omega)
  simp only [Prod.mk.injEq] at he
  obtain⟨rfl,rfl,_⟩:=he
  unfold dM
  simp only [hs,hx,hi,nX,kL,iS,hg,range,Nat.one_mul,ht,hr,hc,hl]
  simp [made,nT]
  rfl
theorem kE{sT xT elem:TypeId}{M:aB}{a bx o c w y len:Nat}{blk b0:aR}{new:List Value}(a5:Ah P elem=false)(hs:P.underlying sT=some (.slice elem))(hx:P.underlying xT=some (.slice elem))(he:elemOf P elem=some (w,y,true))(hw:0<w)(hy:y<=1024)(hlen:len<1073741824)
  (hg:M.get bx=some blk) (ht:dJ w (blk.cs.drop o)=some new) (hc:new.all isCell=true) (hl:new.length=w) (h0:M.get a=some b0) (a2:b0.cs.length=len*w) (a3:b0.elem=elem) (a4:b0.esz=w) (a6:b0.wf=0) (a0:b0.app=true):
  dM P [sT,xT] (.slice (some ⟨a,0,none⟩) len len) (.slice (some ⟨bx,o,none⟩) 1 c) M=some (2,.val (.slice (some ⟨M.next,0,none⟩) (len+1) (len+1)),(M.put a none).alloc ⟨b0.cs++new,elem,w,0,true⟩):=by
 unfold elemOf at he
 cases hi:P.info? elem with
 |none=>rw[hi] at he;cases he
 |some e=>
  rw[hi] at he
  simp only [Option.map_some,Option.some.injEq] at he
  have hr:=rM (n:=len+1) he hw hy (by omega)
  simp only [Prod.mk.injEq] at he
  obtain⟨rfl,rfl,_⟩:=he
  unfold dM
  have a1:dJ (len*e.size) (b0.cs.drop 0)=some b0.cs:=by
   rw[List.drop_zero,<-a2];exact zQ rfl
  simp only [hs,hx,hi,nX,kL,iS,hg,range,Nat.one_mul,ht,hr,hc,hl,h0,a1,a4,a3,a6,a0,a5]
  simp
  rw[Nat.ble_eq_true_of_le (Nat.zero_le _)]
  rfl
end Go.Am
end
noncomputable section
namespace Go.Am
open Go
theorem Ext.aside{M R:aB}(h:Ext M R):Ext {M with log:=[]} {R with log:=[]}:=⟨h.next,h.hide,h.get,[],rfl,fun t ht=>by cases ht⟩
theorem Ext.join{M R M':aB}(h:Ext M R)(k:Ext {M with log:=[]} M'):Ext M {M' with log:=M'.log++R.log}:=
 ⟨k.next,k.hide,k.get,by
  obtain⟨L,h1,h2⟩:=h.log;obtain⟨L',k1,k2⟩:=k.log;refine⟨L'++L,?_,fun t ht=>?_⟩
  ·show M'.log++R.log=_;rw[h1,k1];simp
  ·rcases List.mem_append.1 ht with ht|ht
   ·exact k2 t ht
   ·exact h2 t ht⟩
theorem cH{P:Program}{SP:dC}{S l:List Nat}(h:∀b∈S,b∉l):OQ.holds P SP (.q (.bool (bZ S l)) (uY true)):=by
 refine Iu ?_;induction S with
 |nil=>rfl
 |cons b S ih=>
  simp only [bZ,ih fun x hx=>h x (List.mem_cons_of_mem _ hx),Bool.and_true,Bool.not_eq_true']
  have hb:=h b (List.mem_cons_self ..)
  clear h ih
  induction l with
  |nil=>rfl
  |cons x l ih=>
   simp only [List.mem_cons,not_or] at hb
   simp only [eX,ih hb.2,Bool.or_false]
   cases hx:Nat.beq x b
   ·rfl
   ·exact absurd (xBa hx).symm hb.1
theorem fQ{P:Program}{SP:dC}{a b:Nat}(h:a<b):OQ.holds P SP (.q (.bool (Nat.blt a b)) (uY true)):=Iu (Nat.ble_eq_true_of_le h)
end Go.Am
end
noncomputable section
namespace Go.Am
open Go
variable{P:Program}{SP:dC}
abbrev qT(x:Bool):OQ:= .q (.bool x) (uY true)
abbrev qF(x:Bool):OQ:= .q (.bool x) (uY false)
abbrev qL(t:TypeId)(b o:Nat)(M:aB)(v:Value):OQ:= .q (.load t ⟨b,o,none⟩ M) (1,.val v,La)
abbrev qS(t:TypeId)(b o:Nat)(v:Value)(M M1:aB):OQ:= .q (.store t ⟨b,o,none⟩ v M) (2,.skip,M1)
abbrev qC(f:FuncId)(args:List Value)(M:aB)(v:Value)(M1:aB):OQ:= .cl f args M (1,.val v,M1)
abbrev aI(p:Nat):OF:= .at p (uY true)
abbrev aZ(p:Nat):OF:= .at p (uY false)
abbrev aL(p:Nat)(v:Value):OF:= .at p (1,.val v,La)
abbrev bL(p:Nat)(v:Value)(M:aB):OF:= .at p (1,.val v,M)
abbrev iP(p:Nat)(M:aB):OF:= .at p (2,.skip,M)
abbrev aC(b o n c:Nat):Value:= .slice (some ⟨b,o,none⟩) n c
abbrev dP:Value:= .slice none 0 0
theorem hk{x:OQ}{q:oP}(h:x.holds P SP)(hq:fS P SP q):fS P SP (x::q):=Dd h hq
theorem hq(x:OQ){q:oP}(h:x.holds P SP)(hq:fS P SP q):fS P SP (x::q):=Dd h hq
theorem qI(i:Int)(n:Nat)(h0:0<=i)(h1:i<n):OQ.holds P SP (.q (.inb i n) (uY true)):=Xv h0 h1
theorem lD{t:TypeId}{b o:Nat}{M:aB}{v:Value}(h:bA P t ⟨b,o,none⟩ M=some v):OQ.holds P SP (qL t b o M v):=uC h
theorem qc{P:Program}{SP:dC}{K:List Value->aB->Value->aB->Prop}(f:FuncId){args:List Value}{M M' M1:aB}{v:Value}(hb:back M M'=M1)(hp:pick K args {M with log:=[]}=some (v,M'))(hl:kG M.next M'.log=[])(hs:SP.calls f=some (pick K):=by rfl):OQ.holds P SP (.cl f args M (1,.val v,M1)):=Dy hs hp hl hb
theorem qE{P:Program}{SP:dC}(g:aB->zV){M M2:aB}{b:Nat}{k:aR}(eb:M.next=b)(em:M.alloc k=M2)(h:g M=some (1,.val (.pointer (some ⟨M.next,0,none⟩)),M.alloc k)):OQ.holds P SP (.eq (g M) (1,.val (.pointer (some ⟨b,0,none⟩)),M2)):=lH (by rw[h,eb,em]) xAc
theorem qG{P:Program}{SP:dC}(g:aB->zV)(H:List (Nat×Nat)){M M2:aB}{b:Nat}{k:aR}(eb:M.next=b)(em:M.alloc k=M2)(h:∀M,g M=some (1,.val (.pointer (some ⟨M.next,0,none⟩)),M.alloc k)):OQ.holds P SP (.eq (g (aB.mk M.blks M.next H M.log)) (1,.val (.pointer (some ⟨b,0,none⟩)),aB.mk M2.blks M2.next H M2.log)):=lH (by rw[h];subst eb em;rfl) xAc
theorem qI2{P:Program}{SP:dC}(w:Nat->Value)(g:aB->zV)(H:List (Nat×Nat)){M M2:aB}{b:Nat}{k:aR}(eb:M.next=b)(em:M.alloc k=M2)(h:∀M,g M=some (1,.val (w M.next),M.alloc k)):OQ.holds P SP (.eq (g (aB.mk M.blks M.next H M.log)) (1,.val (w b),aB.mk M2.blks M2.next H M2.log)):=lH (by rw[h];subst eb em;rfl) xAc
theorem qJ{P:Program}{SP:dC}(w:Nat->Value)(g:aB->zV){M M2:aB}{b:Nat}{k:aR}(eb:M.next=b)(em:M.alloc k=M2)(h:g M=some (1,.val (w M.next),M.alloc k)):OQ.holds P SP (.eq (g M) (1,.val (w b),M2)):=lH (by rw[h,eb,em]) xAc
theorem Ht{P:Program}{SP:dC}{t:TypeId}{b o:Nat}{v:Value}{m m':aB}(e:m=m')(h:OQ.holds P SP (qL t b o m' v)):OQ.holds P SP (qL t b o m v):=e▸h
theorem aV{A R:aB}{L:List Nat}{b:Nat}{k:aR}(e:R=aB.mk A.blks A.next A.hide L)(g:A.get b=some k):R.get b=some k:=by rw[e];exact g
theorem dL{M:aB}{x b:Nat}{k:aR}(g:M.get x=some k)(e:M.next=b):x≠b:=by have:=aB.lt_of_get g;omega
theorem kN{M0 M:aB}{b:Nat}(e:M.next=b)(X:Ext M0 M):M0.next<=b:=e▸X.next
theorem uR(M A:aB)(L:List Nat):∃m:aB,m=aB.mk A.blks A.next M.hide L:=⟨_,rfl⟩
theorem vW{M0 M R:aB}(e:R=aB.mk M.blks M.next M.hide [])(X:Ext M0 M):Ext (aB.mk M0.blks M0.next M0.hide []) R:=by rw[e];exact Ext.aside X
theorem uS{M R:aB}(e:R=aB.mk M.blks M.next M.hide [])(h:aA M):aA R:=by rw[e];exact aA.log h
theorem Hu{M R:aB}{k:Nat}{l}(e:R=aB.mk M.blks M.next M.hide [])(h:aP k l=[]):aB.mk M.blks M.next (aP k l++M.hide) []=R:=by rw[h];exact e.symm
theorem hdS{M:aB}{k:Nat}{l}(h:aP k l=[]):aB.mk M.blks M.next (aP k l++M.hide) []=aB.mk M.blks M.next M.hide []:=by rw[h];rfl
theorem mkH{A M:aB}(h:M.hide=A.hide):aB.mk A.blks A.next M.hide A.log=A:=by rw[h]
theorem mkJ{A M:aB}{L:List Nat}(h:M.hide=A.hide):aB.mk A.blks A.next M.hide L=aB.mk A.blks A.next A.hide L:=by rw[h]
theorem nM:Nat.beq 1 0=false:=rfl
theorem nN:Nat.beq 2 0=false:=rfl
theorem hw{x:OQ}{q:oP}(h:x.holds P SP)(hq:fS P SP q):fS P SP (x::x::q):=hk h (hk h hq)
theorem hn:fS P SP []:=Qf
theorem lC{t:TypeId}{b o:Nat}{M:aB}{blk:aR}{v:Value}(hd:(P.underlying t).map eC=some false)(g:M.get b=some blk)(h:blk.cs[o]?=some v):OQ.holds P SP (qL t b o M v):=uC (aY (a:=⟨b,o,none⟩) hd g h)
theorem lO(o:Nat){t:TypeId}{b:Nat}{M:aB}{blk:aR}{v:Value}(hd:(P.underlying t).map eC=some false)(g:M.get b=some blk)(h:blk.cs[o]?=some v):OQ.holds P SP (qL t b o M v):=lC hd g h
theorem lA{t:TypeId}{b o n:Nat}{M:aB}{blk:aR}{l:List Value}(hd:(P.underlying t).map eC=some true/\(P.info? t).map (·.size)=some n)(g:M.get b=some blk)(h:dJ n (blk.cs.drop o)=some l):OQ.holds P SP (qL t b o M (.agg ⟨l⟩)):=uC (lS (a:=⟨b,o,none⟩) hd.1 hd.2 g h)
theorem bT{x:Bool}(h:x=true):OQ.holds P SP (qT x):=Iu h
theorem bF{x:Bool}(h:x=false):OQ.holds P SP (qF x):=Iu h
end Go.Am
end
noncomputable section
namespace Go.Am
open Go
abbrev oT(P:Program)(tb:List Nat)(n:Nat)(fn:Func)(q:QC)(args:List Value)(M:aB)(F:List OF)(k:Nat):=(oB P [] tb n fn.ntmps q (mR args 0 .nil) M F 0).map (fun r=>(r.1.1,r.1.2.1.get k,r.1.2.2,r.2.2.2))
abbrev oR(P:Program)(tb:List Nat)(n:Nat)(fn:Func)(q:QC)(T:List (Nat×Value))(M:aB)(F:List OF)(ks:List Nat):=(oB P [] tb n fn.ntmps q (fr T) M F 0).map (fun r=>(r.1.1,ks.map r.1.2.1.get,r.1.2.2,r.2.2.2))
theorem aD(P:Program)(B:Bd):cS P [] B (uG [] []):=rO (fun p hp=>by cases hp) (fun p hp=>by cases hp)
end Go.Am
end
noncomputable section
namespace Go.Am
open Go
theorem lN{P:Program}{SP:dC}{a:Option Addr}{n c:Nat}(h:a.isNone=true->n=0/\c=0):OQ.holds P SP (.ln a n c):=h
end Go.Am
end
