/-
  Package hier: each of its laws for every argument; no conditions. The last text states which.
-/
import Derived.Test.YtdaglldahidmbaaAmQ
import Derived.Test.YtdaglldahidmbaaGAmEq
set_option linter.unusedVariables false
set_option linter.unusedSimpArgs false
noncomputable section
namespace Go.Am
open Go
variable{P:Program}{GL:List Nat}{B:Bd}{callF:cK}{SP:cZ}
inductive OQ where
 |q (x:Qu) (a:Dy)
 |eq (x:Db) (a:Dy)
 |cl (f:FuncId) (args:List Value) (M:aA) (a:Dy)
 |ln (a:Option Addr) (n c:Nat)
 |blk (id:Nat) (b:QC) (nt:Nat) (ks:List Nat) (vs:List (Option Value)) (M:aA) (e:cH) (T':Tr Value) (M':aA)
def OQ.holds(P:Program)(SP:cZ):OQ->Prop
 | .q x a=>x.holds P SP a
 | .eq x a=>x=some a/\a.1≠0
 | .cl f args M a=>kC (iW SP) f args M=some a/\a.1≠0
 | .ln a n c=>a.isNone=true->n=0/\c=0
 | .blk id b nt ks vs M e T' M'=> ∃g,SP.blocks id=some g/\ ∀c T,comp c=b->ks.map T.get=vs->g c ⟨T,nt,M⟩=some (e,⟨T',nt,M'⟩)
inductive OF where
 |at(pt:Nat) (a:Dy)
 |blk (pt:Nat) (ks:List Nat) (e:cH) (T':Tr Value) (M':aA)
def Gn:List OF->Nat->Option (Dy×List OF)
 | .at p a::F,c=>bif Nat.beq p c then some (a,F) else none
 |_,_=>none
def oblk?:List OF->Nat->Option (List Nat×cH×Tr Value×aA×List OF)
 | .blk p ks e T M::F,c=>bif Nat.beq p c then some (ks,e,T,M,F) else none
 |_,_=>none
abbrev qH:=List OQ
abbrev OH(α:Type):=Option (α×List OF×Nat×qH)
def zW(g:QG)(T:Tr Value)(F:List OF)(c:Nat):OH Bool:=
 match Gn F c with
 |some (a,F')=>match g with
  | .at d want=>match T.get d,a.2.1 with
   |some (.bool b),.val (.bool t)=>some (t==want,F',c+1,[.q (.bool b) a])
   |_,_=>none
  |_=>none
 |none=>match Gz g T with
  |some b=>some (b,F,c+1,[])
  |none=>none
def Sy:cK:=fun _ _ _=>none
def omk(P:Program)(GL:List Nat)(o:Op)(T:Tr Value)(M:aA):Option Db:=
 match o with
 | .alloc elem=>some (dL P elem M)
 | .box elem x=>match ev GL T x with|some v=>some (fE P elem v M)|none=>none
 | .buildSlice t len parts=>match mH GL T parts.toList with|some ps=>some (bE P t len ps M)|none=>none
 | .makeSlice t l c=>match ev GL T l,ev GL T c with|some l,some c=>some (cB P t l c M)|_,_=>none
 |_=>none
theorem Ob{q:QO}{T:Tr Value}{M:aA}{x:Db}{a:Dy}(h:omk P GL q.op T M=some x)(hx:x=some a)(ha:a.1≠0):jG P GL callF (uK q) T M=some a:=by
 obtain⟨dst,g,op,type⟩:=q
 refine dV ?_ ?_ ha<;>simp only [uK]<;>simp only [omk] at h<;>split at h<;>try cases h
 all_goals simp only [eT,eU]
 all_goals first
  |exact hx
  |(split at h
    ·rename_i hv
     cases h
     simp only [hv]
     exact hx
    ·cases h)
  |(split at h
    ·rename_i h1 h2
     cases h
     simp only [h1,h2]
     exact hx
    ·cases h)
theorem Ij{T:Tr Value}: ∀{l:List Operand} {vs:List Value},oM GL T l=some vs->l.map (fun x=>(ev GL T x).getD undef)=vs
 | [],vs,h=>by simp only [oM,Option.some.injEq] at h;subst h;rfl
 |x::l,vs,h=>by
  simp only [oM] at h
  split at h
  ·rename_i v vs' h1 h2
   cases h
   simp only [List.map_cons,h1,Option.getD_some,Ij h2]
  ·cases h
def Ws(P:Program)(GL:List Nat)(o:Op)(T:Tr Value):Option (Option Addr×Nat×Nat):=
 match o with
 | .call c=>match c.callee with
  | .builtin .len=>match oM GL T c.args.toList,(c.argTypes[0]?).bind (P.underlying ·) with
   |some [.slice a n c],some (.slice _)=>some (a,n,c)
   |_,_=>none
  |_=>none
 |_=>none
theorem Lt{q:QO}{T:Tr Value}{M:aA}{a:Option Addr}{n c:Nat}(h:Ws P GL q.op T=some (a,n,c))(hn:a.isNone=true->n=0/\c=0):jG P GL callF (uK q) T M=some (0,.val (.int .i64 n),M):=by
 obtain⟨dst,g,op,type⟩:=q
 simp only at h
 unfold Ws at h
 split at h
 ·rename_i c0
  obtain⟨callee,args,argTypes⟩:=c0
  simp only at h
  split at h
  ·split at h
   ·rename_i a' n' c' e hx ht
    simp only [Option.some.injEq,Prod.mk.injEq] at h
    obtain⟨rfl,rfl,rfl⟩:=h
    cases a' with
    |none=>
     obtain⟨rfl,rfl⟩:=hn rfl
     have hr:bV P (execOp (fun x=>(ev GL T x).getD undef) (uK ⟨dst,g,.call ⟨.builtin .len,args,argTypes⟩,type⟩))=some (.value (.int .i64 0)):=by
      have hm:args.map (fun x=>(ev GL T x).getD undef)= #[.slice none 0 0]:=by
       apply Array.ext'
       simp only [Array.toList_map]
       exact Ij hx
      cases hr:argTypes[0]? with
      |none=>rw[hr] at ht;cases ht
      |some t0=>
       rw[hr] at ht
       simp only [Option.bind_some] at ht
       simp [uK,execOp,resolve,invoke,builtin,hm,Builtin.len_,hr,goInt,underlying,program,bind,Sem.bind,bV,pure,ht]
     have hf:jA P GL (uK ⟨dst,g,.call ⟨.builtin .len,args,argTypes⟩,type⟩) T=some (.val (.int .i64 0)):=by
      unfold jA
      have:oM GL T (uK ⟨dst,g,.call ⟨.builtin .len,args,argTypes⟩,type⟩).op.operands.toList=some [.slice none 0 0]:=by
       simpa [uK,Op.operands,Call.operands] using hx
      rw[this]
      simp only [cX,flat,Option.isNone_none,Bool.and_true,Nat.beq_refl,cond_true,hr]
     unfold jG
     simp only [uK] at hf⊢
     simp only [eT,jO,hf]
     rfl
    |some a=>
     unfold jG
     simp only [uK,eT,jO,hx,ht]
     have:jA P GL ({dst:=dst,op:= .call ⟨.builtin .len,args,argTypes⟩,type:=type,pos:= "",after:= #[],guard:=none}:Oper) T=none:=by
      unfold jA
      have:oM GL T ({dst:=dst,op:= .call ⟨.builtin .len,args,argTypes⟩,type:=type,pos:= "",after:= #[],guard:=none}:Oper).op.operands.toList=some [.slice (some a) n' c']:=by
       simpa [Op.operands,Call.operands] using hx
      rw[this]
      simp [cX,flat]
     rw[this]
     rfl
   ·cases h
  ·cases h
 ·cases h
def Tb(P:Program)(GL:List Nat)(q:QO)(T:Tr Value)(M:aA)(F:List OF)(c:Nat):OH Dy:=
 match Gn F c with
 |some (a,F')=>match omk P GL q.op T M with
  |some x=>some (a,F',c+1,[.eq x a])
  |none=>match Ws P GL q.op T with
  |some (a,n,cp)=>some ((0,.val (.int .i64 n),M),F',c+1,[.ln a n cp])
  |none=>match xH P GL (uK q) T with
   |some (g,args)=>match eT P GL (uK q) T with
    |none=>some (a,F',c+1,[.cl g args M a])
    |some _=>none
   |none=>match hop P GL (uK q) T M a with
    |some (r,x)=>some (r,F',c+1,[.q x a])
    |none=>none
 |none=>match jG P GL Sy (uK q) T M with
  |some r=>some (r,F,c+1,[])
  |none=>none
def Oc(nt:Nat)(dst:Option Nat)(r:AR)(T:Tr Value):Option (Tr Value):=
 match dst,r with
 |none,_=>some T
 |some d,.val v=>bif Nat.blt d nt then some (T.set d (some v)) else none
 |some d,.skip=>bif Nat.blt d nt then some (T.set d (some undef)) else none
def Lv(P:Program)(GL:List Nat)(nt:Nat):List QO->Tr Value->aA->List OF->Nat->OH (Tr Value×aA)
 | [],T,M,F,c=>some ((T,M),F,c,[])
 |q::l,T,M,F,c=>match zW q.g T F c with
  |some (true,F1,c1,q1)=>match Tb P GL q T M F1 c1 with
   |some ((_,r,M'),F2,c2,q2)=>match Oc nt q.dst r T with
    |some T'=>match Lv P GL nt l T' M' F2 c2 with
     |some (x,F3,c3,q3)=>some (x,F3,c3,q1++q2++q3)
     |none=>none
    |none=>none
   |none=>none
  |some (false,F1,c1,q1)=>match Oc nt q.dst .skip T with
   |some T'=>match Lv P GL nt l T' M F1 (c1+1) with
    |some (x,F3,c3,q3)=>some (x,F3,c3,q1++q3)
    |none=>none
   |none=>none
  |none=>none
def Rp(GL:List Nat)(o:Oper)(T:Tr Value):Option Nat:=
 match o.op with
 | .load _ x=>match ev GL T x with
  |some (.pointer (some a))=>some a.block
  |_=>none
 |_=>none
def yX(P:Program)(GL:List Nat)(nt:Nat)(ops:Array Oper)(before sl:List Nat)(n0:Nat):List Oper->Nat->List jF->List Nat->Tr Value->aA->List OF->Nat->OH (Tr Value×aA×List Nat)
 | [],_,_,S,T,M,F,c=>some ((T,M,S),F,c,[])
 |o::rest,i,dn,S,T,M,F,c=>match zW (cg ops o) T F c,before[i]? with
  |some (true,F1,c1,q1),some deps=>match Tb P GL (Uj ops o) T {M with hide:=aS deps dn++M.hide} F1 c1 with
   |some ((k,r,M'),F2,c2,q2)=>match Oc nt o.dst r T with
    |some T'=>bif fF i sl then
      match Rp GL o T with
      |some b=>match yX P GL nt ops before sl n0 rest (i+1) dn (b::S) T' M F2 c2 with
       |some (x,F3,c3,q3)=>some (x,F3,c3,q1++q2++OQ.q (.bool (Nat.blt b n0)) (fM true)::q3)
       |none=>none
      |none=>none
     else bif uW ops o deps k dn then
      match yX P GL nt ops before sl n0 rest (i+1) (⟨i,k,M.next,M'.next⟩::dn) S T' {M' with hide:=M.hide} F2 c2 with
      |some (x,F3,c3,q3)=>some (x,F3,c3,q1++q2++q3)
      |none=>none
     else none
    |none=>none
   |none=>none
  |some (false,F1,c1,q1),some _=>match Oc nt o.dst .skip T with
   |some T'=>match yX P GL nt ops before sl n0 rest (i+1) dn S T' M F1 (c1+1) with
    |some (x,F3,c3,q3)=>some (x,F3,c3,q1++q3)
    |none=>none
   |none=>none
  |_,_=>none
def Lp(P:Program)(GL:List Nat)(nt:Nat)(ops:Array Oper)(T:Tr Value)(M:aA)(F:List OF)(c:Nat):OH (Tr Value×aA):=
 bif kA ops then
  match kE ops.toList (bD ops.toList []) with
  |some _=>none
  |none=>match kH ops.toList (bD ops.toList []) ops.toList (bD ops.toList []) 0 with
   | []=>match yX P GL nt ops (bD ops.toList []) [] 0 ops.toList 0 [] [] T M F c with
    |some ((T',M',_),r)=>some ((T',M'),r)
    |none=>none
   |x::l=>match yX P GL nt ops (bD ops.toList []) (x::l) M.next ops.toList 0 [] [] T {M with log:= []} F c with
    |some ((T',M',S),F1,c1,q)=>some ((T',{M' with log:=M'.log++M.log}),F1,c1,q++ [OQ.q (.bool (cQ S M'.log)) (fM true)])
    |none=>none
 else none
def Qt(P:Program)(GL:List Nat)(nt:Nat)(l:List QO)(x y:Operand)(t:TypeId)(T:Tr Value)(M:aA)(F:List OF)(c:Nat):OH (Tr Value×aA):=
 match Lv P GL nt l T {M with log:= []} F c with
 |some ((T1,M1),F1,c1,q1)=>match Gn F1 c1,ev GL T1 x,ev GL T1 y with
  |some ((2,.skip,M2),F2),some (.pointer (some a)),some v=>
   some ((T1,{M2 with log:=M2.log++M.log}),F2,c1+1,q1++ [OQ.q (.store t a v M1) (2,.skip,M2),OQ.q (.bool (Nat.blt a.block M.next&& !(fF a.block M1.log))) (fM true)])
  |_,_,_=>none
 |none=>none
abbrev OX:=Nat->QC->Tr Value->aA->List OF->Nat->OH (cH×Tr Value×aA)
def mV(P:Program)(GL:List Nat)(tb:List Nat)(ih:OX)(nt:Nat)(c:QC)(T:Tr Value)(M:aA)(F:List OF)(k:Nat):OH (cH×Tr Value×aA):=
 match c with
 | .skip=>some ((.normal,T,M),F,k,[])
 | .plain l=>match Lv P GL nt l T M F k with
  |some ((T',M'),r)=>some ((.normal,T',M'),r)
  |none=>none
 | .free l t x y=>match Qt P GL nt l x y t T M F k with
  |some ((T',M'),r)=>some ((.normal,T',M'),r)
  |none=>none
 | .drawn ops _ _ _=>match Lp P GL nt ops T M F k with
  |some ((T',M'),r)=>some ((.normal,T',M'),r)
  |none=>none
 | .seq a b=>match ih nt a T M F k with
  |some ((.normal,T1,M1),F1,k1,q1)=>match ih nt b T1 M1 F1 k1 with
   |some (r,F2,k2,q2)=>some (r,F2,k2,q1++q2)
   |none=>none
  |r=>r
 | .cond x a b=>match Gn F k with
  |some (an,F')=>match ev GL T x,an.2.1 with
   |some (.bool v),.val (.bool t)=>match ih nt (bif t then a else b) T M F' (k+1) with
    |some (r,F2,k2,q2)=>some (r,F2,k2,OQ.q (.bool v) an::q2)
    |none=>none
   |_,_=>none
  |none=>match ev GL T x with
   |some (.bool t)=>ih nt (bif t then a else b) T M F (k+1)
   |_=>none
 | .block id b=>bif fF id tb then match oblk? F k with
   |some (ks,e,T',M',F')=>some ((e,T',M'),F',k+1,[.blk id b nt ks (ks.map T.get) M e T' M'])
   |none=>none
  else match ih nt b T M F k with
   |some ((.exit i,T',M'),r)=>bif Nat.beq i id then some ((.normal,T',M'),r) else some ((.exit i,T',M'),r)
   |r=>r
 | .loop b=>match ih nt b T M F k with
  |some ((.normal,T1,M1),F1,k1,q1)=>match ih nt (.loop b) T1 M1 F1 k1 with
   |some (r,F2,k2,q2)=>some (r,F2,k2,q1++q2)
   |none=>none
  |r=>r
 | .exit id=>some ((.exit id,T,M),F,k,[])
 | .ret=>some ((.ret,T,M),F,k,[])
 | .label _=>some ((.normal,T,M),F,k,[])
 | .goto l=>some ((.goto l,T,M),F,k,[])
 | .scope c=>match ih nt c T M F k with
  |some ((.goto _,_,_),_)=>none
  |r=>r
 | .bad=>none
def oX(P:Program)(GL:List Nat)(tb:List Nat)(n:Nat):OX:=
 Nat.rec (motive:=fun _=>OX) (fun _ _ _ _ _ _=>none) (fun _ ih=>mV P GL tb ih) n
def gJ(P:Program)(SP:cZ)(q:qH):Prop:= ∀p∈q,p.holds P SP
theorem gJ.left{q1 q2:qH}(h:gJ P SP (q1++q2)):gJ P SP q1:=fun p hp=>h p (by simp [hp])
theorem gJ.right{q1 q2:qH}(h:gJ P SP (q1++q2)):gJ P SP q2:=fun p hp=>h p (by simp [hp])
theorem kF{ops:Array Oper}{o:Oper}{T:Tr Value}{F F':List OF}{c c':Nat}{b:Bool}{q:qH}(h:zW (cg ops o) T F c=some (b,F',c',q))(hq:gJ P SP q):eK ops T o=some b:=by
 rw[<-Lz]
 unfold zW at h
 split at h
 ·rename_i a F1 _
  generalize cg ops o=g at h⊢
  cases g with
  |no=>cases h
  |bad=>cases h
  |«at» d want=>
   simp only at h
   split at h
   ·rename_i v t hT ha
    simp only [Option.some.injEq,Prod.mk.injEq] at h
    obtain⟨rfl,_,_,rfl⟩:=h
    have:=hq _ (List.mem_singleton.2 rfl)
    simp only [OQ.holds,Qu.holds] at this
    rw[ha] at this
    cases this
    simp only [Gz,hT]
   ·cases h
 ·split at h
  ·rename_i b' hb
   simp only [Option.some.injEq,Prod.mk.injEq] at h
   obtain⟨rfl,_⟩:=h
   exact hb
  ·cases h
theorem uZ(hK:yD SP callF){ops:Array Oper}{o:Oper}{T:Tr Value}{M:aA}{F F':List OF}{c c':Nat}{r:Dy}{q:qH}(h:Tb P GL (Uj ops o) T M F c=some (r,F',c',q))(hq:gJ P SP q):jG P GL callF o T M=some r:=by
 rw[<-Oz (ops:=ops)]
 unfold Tb at h
 split at h
 ·split at h
  ·rename_i x hm
   simp only [Option.some.injEq,Prod.mk.injEq] at h
   obtain⟨rfl,_,_,rfl⟩:=h
   obtain⟨h1,h2⟩:=hq _ (List.mem_singleton.2 rfl)
   exact Ob hm h1 h2
  ·split at h
   ·rename_i a n cp hm
    simp only [Option.some.injEq,Prod.mk.injEq] at h
    obtain⟨rfl,_,_,rfl⟩:=h
    exact Lt hm (hq _ (List.mem_singleton.2 rfl))
   split at h
   ·rename_i g args hg
    split at h
    ·rename_i h0
     simp only [Option.some.injEq,Prod.mk.injEq] at h
     obtain⟨rfl,_,_,rfl⟩:=h
     obtain⟨h1,h2⟩:=hq _ (List.mem_singleton.2 rfl)
     refine dV h0 ?_ h2
     rw[zH hg]
     exact nO hK h1
    ·cases h
   ·split at h
    ·rename_i r' x hr
     simp only [Option.some.injEq,Prod.mk.injEq] at h
     obtain⟨rfl,_,_,rfl⟩:=h
     exact Np hK hr (hq _ (List.mem_singleton.2 rfl))
    ·cases h
 ·split at h
  ·rename_i r' hr
   simp only [Option.some.injEq,Prod.mk.injEq] at h
   obtain⟨rfl,_⟩:=h
   exact Nc (fun f a M r h=>by cases h) hr
  ·cases h
theorem mC{nt:Nat}{o:Oper}{r:AR}{T T':Tr Value}(M:aA)(h:Oc nt o.dst r T=some T'):oQ o r ⟨T,nt,M⟩=some ⟨T',nt,M⟩:=by
 unfold Oc at h
 unfold oQ
 split at h
 ·rename_i hd;cases h;rw[hd]
 ·rename_i d v hd
  cases hb:Nat.blt d nt<;>simp only [hb,cond_true,cond_false] at h
  ·cases h
  ·cases h;simp only [hd,hb,cond_true]
 ·rename_i d hd
  cases hb:Nat.blt d nt<;>simp only [hb,cond_true,cond_false] at h
  ·cases h
  ·cases h;simp only [hd,hb,cond_true]
theorem oE(hK:yD SP callF){ops:Array Oper}{nt:Nat}: ∀(l:List Oper) (T:Tr Value) (M:aA) (F:List OF) (c:Nat) (T':Tr Value) (M':aA) (F':List OF) (c':Nat) (q:qH),
  Lv P GL nt (l.map (Uj ops)) T M F c=some ((T',M'),F',c',q)->gJ P SP q->vQ P GL callF ops l ⟨T,nt,M⟩=some ⟨T',nt,M'⟩
 | [],T,M,F,c,T',M',F',c',q,h,_=>by
  simp only [List.map_nil,Lv,Option.some.injEq,Prod.mk.injEq] at h
  obtain⟨⟨rfl,rfl⟩,_⟩:=h
  rfl
 |o::l,T,M,F,c,T',M',F',c',q,h,hq=>by
  simp only [List.map_cons,Lv] at h
  simp only [vQ]
  split at h
  ·rename_i F1 c1 q1 hw
   split at h
   ·rename_i k r M1 F2 c2 q2 ho
    split at h
    ·rename_i T1 hp
     split at h
     ·rename_i x F3 c3 q3 hs
      simp only [Option.some.injEq,Prod.mk.injEq] at h
      obtain⟨rfl,_,_,rfl⟩:=h
      have hw':=kF (P:=P) (SP:=SP) (o:=o) hw hq.left.left
      have ho':=uZ hK (o:=o) ho hq.left.right
      simp only [hw',ho',mC (o:=o) M1 hp]
      exact oE hK l T1 M1 F2 c2 T' M' _ _ q3 hs hq.right
     ·cases h
    ·cases h
   ·cases h
  ·rename_i F1 c1 q1 hw
   split at h
   ·rename_i T1 hp
    split at h
    ·rename_i x F3 c3 q3 hs
     simp only [Option.some.injEq,Prod.mk.injEq] at h
     obtain⟨rfl,_,_,rfl⟩:=h
     have hw':=kF (P:=P) (SP:=SP) (o:=o) hw hq.left
     simp only [hw',mC (o:=o) M hp]
     exact oE hK l T1 M _ _ T' M' _ _ q3 hs hq.right
    ·cases h
   ·cases h
  ·cases h
theorem xP{b:Bool}(h:OQ.holds P SP (.q (.bool b) (fM true))):b=true:=by
 simp only [OQ.holds,Qu.holds,fM] at h
 cases h;rfl
theorem mP(hK:yD SP callF){ops:Array Oper}{nt n0:Nat}{before sl:List Nat}: ∀(l:List Oper) (i:Nat) (dn:List jF) (S:List Nat) (T:Tr Value) (M:aA) (F:List OF) (c:Nat) (T':Tr Value) (M':aA) (S':List Nat) (F':List OF) (c':Nat) (q:qH),
  yX P GL nt ops before sl n0 l i dn S T M F c=some ((T',M',S'),F',c',q)->gJ P SP q->kJ P GL callF ops before sl n0 l i dn S ⟨T,nt,M⟩=some (⟨T',nt,M'⟩,S')/\(sl= []->oS P GL callF ops before l i dn ⟨T,nt,M⟩=some ⟨T',nt,M'⟩)
 | [],i,dn,S,T,M,F,c,T',M',S',F',c',q,h,_=>by
  simp only [yX,Option.some.injEq,Prod.mk.injEq] at h
  obtain⟨⟨rfl,rfl,rfl⟩,_⟩:=h
  exact⟨rfl,fun _=>rfl⟩
 |o::l,i,dn,S,T,M,F,c,T',M',S',F',c',q,h,hq=>by
  simp only [yX] at h
  simp only [kJ,oS]
  split at h
  ·rename_i F1 c1 q1 deps hw hd
   split at h
   ·rename_i k r M1 F2 c2 q2 ho
    split at h
    ·rename_i T1 hp
     cases he:fF i sl<;>simp only [he,cond_true,cond_false] at h
     ·cases hm:uW ops o deps k dn<;>simp only [hm,cond_true,cond_false] at h
      ·cases h
      ·split at h
       ·rename_i x F3 c3 q3 hs
        simp only [Option.some.injEq,Prod.mk.injEq] at h
        obtain⟨rfl,_,_,rfl⟩:=h
        have hw':=kF (P:=P) (SP:=SP) (o:=o) hw hq.left.left
        have ho':=uZ hK (o:=o) ho hq.left.right
        have ih:=mP hK l (i+1) _ S T1 _ F2 c2 T' M' S' _ _ q3 hs hq.right
        have hst:nF GL sl n0 o i T=none:=by unfold nF;rw[he];rfl
        have hp':=mC (o:=o) {M1 with hide:=M.hide} hp
        refine⟨?_,fun hsl=> ?_⟩
        ·simp only [hw',hd,ho',hst,hm,cond_true]
         rw[show({T:=T,n:=nt,M:={M1 with hide:=M.hide}}:St)=⟨T,nt,{M1 with hide:=M.hide}⟩ from rfl,hp']
         exact ih.1
        ·simp only [hw',hd,ho',hm,cond_true]
         rw[show({T:=T,n:=nt,M:={M1 with hide:=M.hide}}:St)=⟨T,nt,{M1 with hide:=M.hide}⟩ from rfl,hp']
         exact ih.2 hsl
       ·cases h
     ·split at h
      ·rename_i b hb
       split at h
       ·rename_i x F3 c3 q3 hs
        simp only [Option.some.injEq,Prod.mk.injEq] at h
        obtain⟨rfl,_,_,rfl⟩:=h
        have hw':=kF (P:=P) (SP:=SP) (o:=o) hw hq.left.left
        have ho':=uZ hK (o:=o) ho hq.left.right
        have a0:gJ P SP q3:=fun p hp=>hq.right p (List.mem_cons_of_mem _ hp)
        have hlt:Nat.blt b n0=true:=xP (hq.right _ (List.mem_cons_self ..))
        have ih:=mP hK l (i+1) dn (b::S) T1 M F2 c2 T' M' S' _ _ q3 hs a0
        have hst:nF GL sl n0 o i T=some b:=by
         unfold nF Gq
         rw[he]
         unfold Rp at hb
         simp only [cond_true]
         split at hb
         ·rename_i t x hop
          split at hb
          ·rename_i a hx
           cases hb
           simp only [hop,hx,hlt,cond_true]
          ·cases hb
         ·cases hb
        refine⟨?_,fun hsl=> ?_⟩
        ·simp only [hw',hd,ho',hst,mC (o:=o) M hp]
         exact ih.1
        ·subst hsl;cases he
       ·cases h
      ·cases h
    ·cases h
   ·cases h
  ·rename_i F1 c1 q1 deps hw hd
   split at h
   ·rename_i T1 hp
    split at h
    ·rename_i x F3 c3 q3 hs
     simp only [Option.some.injEq,Prod.mk.injEq] at h
     obtain⟨rfl,_,_,rfl⟩:=h
     have hw':=kF (P:=P) (SP:=SP) (o:=o) hw hq.left
     have ih:=mP hK l (i+1) dn S T1 M _ _ T' M' S' _ _ q3 hs hq.right
     refine⟨?_,fun hsl=> ?_⟩
     ·simp only [hw',hd,mC (o:=o) M hp]
      exact ih.1
     ·simp only [hw',hd,mC (o:=o) M hp]
      exact ih.2 hsl
    ·cases h
   ·cases h
  ·cases h
theorem Gm(hK:yD SP callF){ops:Array Oper}{nt:Nat}{T T':Tr Value}{M M':aA}{F F':List OF}{c c':Nat}{q:qH}(h:Lp P GL nt ops T M F c=some ((T',M'),F',c',q))(hq:gJ P SP q):
  kA ops=true/\nQ P GL callF ops ⟨T,nt,M⟩=some ⟨T',nt,M'⟩:=by
 unfold Lp at h
 cases hl:kA ops<;>simp only [hl,cond_true,cond_false] at h
 ·cases h
 refine⟨rfl,?_⟩
 split at h
 ·cases h
 ·rename_i hf
  simp only [nQ,hf,qM]
  split at h
  ·rename_i hs
   split at h
   ·rename_i T1 M1 S1 r ho
    obtain⟨F2,c2,q2⟩:=r
    simp only [Option.some.injEq,Prod.mk.injEq] at h
    obtain⟨⟨rfl,rfl⟩,_,_,rfl⟩:=h
    simp only [hs]
    exact(mP hK _ _ _ _ _ _ _ _ _ _ _ _ _ _ ho hq).2 rfl
   ·cases h
  ·rename_i x l hs
   split at h
   ·rename_i T1 M1 S1 F2 c2 q2 ho
    simp only [Option.some.injEq,Prod.mk.injEq] at h
    obtain⟨⟨rfl,rfl⟩,_,_,rfl⟩:=h
    have h1:=(mP hK _ _ _ _ _ _ _ _ _ _ _ _ _ _ ho hq.left).1
    have hap:cQ S1 M1.log=true:=xP (hq.right _ (List.mem_singleton.2 rfl))
    simp only [hs]
    rw[show eR ⟨T,nt,M⟩=(⟨T,nt,{M with log:= []}⟩:St) from rfl,h1]
    simp only [hap,cond_true,Ec]
   ·cases h
theorem Jf(hA:bO callF)(hK:yD SP callF){ops:Array Oper}(hst:tF ops.toList (bD ops.toList [])= []){f:Oper}(hlf:kE ops.toList (bD ops.toList [])=some f){t:TypeId}{x y:Operand}(hop:f.op= .store t x y)
  (ht:oL ops.toList.dropLast (bD ops.toList []) 0 []=true) {nt:Nat} {T T':Tr Value} {M M':aA} {F F':List OF} {c c':Nat} {q:qH} (h:Qt P GL nt (ops.toList.dropLast.map (Uj ops)) x y t T M F c=some ((T',M'),F',c',q)) (hq:gJ P SP q):
  nQ P GL callF ops ⟨T,nt,M⟩=some ⟨T',nt,M'⟩:=by
 unfold Qt at h
 split at h
 ·rename_i T1 M1 F1 c1 q1 hs
  split at h
  ·rename_i M2 F2 a v hf hx hy
   simp only [Option.some.injEq,Prod.mk.injEq] at h
   obtain⟨⟨rfl,rfl⟩,_,_,rfl⟩:=h
   have h2:=oE hK _ _ _ _ _ _ _ _ _ _ hs hq.left
   have h3:=(jI (n0:=M.next) hA _ _ 0 [] [] _ _ ht (fun d hd=>by cases hd) (fun j _=>by rw[Nat.zero_add]) h2).2
   have hst':OQ.holds P SP (.q (.store t a v M1) (2,.skip,M2)):=hq.right _ (by simp)
   have hb:(Nat.blt a.block M.next&& !(fF a.block M1.log))=true:=xP (hq.right _ (by simp))
   have hstore:eC P t a v M1=some M2:=by
    simp only [OQ.holds,Qu.holds] at hst'
    obtain⟨M3,e1,e2⟩:=hst'
    cases e1;exact e2
   simp only [nQ,hlf,Ad,hst]
   rw[show eR ⟨T,nt,M⟩=(⟨T,nt,{M with log:= []}⟩:St) from rfl,h3]
   simp only [cQ,cond_true,Si,hop,hx,hy,hstore,hb,Ec]
  ·cases h
 ·cases h
section exec
def OOk(P:Program)(SP:cZ)(ih:OX)(ih':Code->St->Option (cH×St)):Prop:= ∀nt c T M F k e T' M' F' k' q,ih nt (comp c) T M F k=some ((e,T',M'),F',k',q)->gJ P SP q->ih' c ⟨T,nt,M⟩=some (e,⟨T',nt,M'⟩)
theorem Jh{tb:List Nat}(hB: ∀id,fF id tb=false->SP.blocks id=none){ih:OX}{ih':Code->St->Option (cH×St)}(hi:OOk P SP ih ih')(hA:bO (fI SP (lX P ih'))):OOk P SP (mV P GL tb ih) (pQ P GL SP ih'):=fun nt c T M F k e T' M' F' k' q h hq=>by
 have hK:yD SP (fI SP (lX P ih')):=Nu SP _
 have seqc: ∀(a b:Code),(match ih nt (comp a) T M F k with
   |some ((.normal,T1,M1),F1,k1,q1)=>match ih nt (comp b) T1 M1 F1 k1 with
    |some (r,F2,k2,q2)=>some (r,F2,k2,q1++q2)
    |none=>none
   |r=>r)=some ((e,T',M'),F',k',q)->(match ih' a ⟨T,nt,M⟩ with|some (.normal,s')=>ih' b s'|r=>r)=some (e,⟨T',nt,M'⟩):=fun a b h=>by
  split at h
  ·rename_i T1 M1 F1 k1 q1 hx
   split at h
   ·rename_i r F2 k2 q2 hy
    simp only [Option.some.injEq,Prod.mk.injEq] at h
    obtain⟨rfl,_,_,rfl⟩:=h
    rw[hi _ _ _ _ _ _ _ _ _ _ _ _ hx hq.left]
    exact hi _ _ _ _ _ _ _ _ _ _ _ _ hy hq.right
   ·cases h
  ·rename_i hn
   rw[hi _ _ _ _ _ _ _ _ _ _ _ _ h hq]
   cases e with
   |normal=>exact absurd h (hn _ _ _ _ _)
   |exit i=>rfl
   |ret=>rfl
   |goto l=>rfl
 cases c with
 |skip=>
  simp only [comp,mV,Option.some.injEq,Prod.mk.injEq] at h
  obtain⟨⟨rfl,rfl,rfl⟩,_⟩:=h
  rfl
 |exit id=>
  simp only [comp,mV,Option.some.injEq,Prod.mk.injEq] at h
  obtain⟨⟨rfl,rfl,rfl⟩,_⟩:=h
  rfl
 |ret=>
  simp only [comp,mV,Option.some.injEq,Prod.mk.injEq] at h
  obtain⟨⟨rfl,rfl,rfl⟩,_⟩:=h
  rfl
 |label l=>
  simp only [comp,mV,Option.some.injEq,Prod.mk.injEq] at h
  obtain⟨⟨rfl,rfl,rfl⟩,_⟩:=h
  rfl
 |goto l=>
  simp only [comp,mV,Option.some.injEq,Prod.mk.injEq] at h
  obtain⟨⟨rfl,rfl,rfl⟩,_⟩:=h
  rfl
 |seq a b=>exact seqc a b h
 |loop b=>exact seqc b (.loop b) h
 |cond x a b=>
  simp only [comp,mV] at h
  simp only [pQ]
  split at h
  ·rename_i an F1 _
   split at h
   ·rename_i v t hx ha
    split at h
    ·rename_i r F2 k2 q2 hy
     simp only [Option.some.injEq,Prod.mk.injEq] at h
     obtain⟨rfl,_,_,rfl⟩:=h
     have h1:=hq _ (List.mem_cons_self ..)
     simp only [OQ.holds,Qu.holds] at h1
     rw[ha] at h1
     cases h1
     rw[hx]
     have h2:gJ P SP q2:=fun p hp=>hq p (List.mem_cons_of_mem _ hp)
     cases v<;>exact hi _ _ _ _ _ _ _ _ _ _ _ _ hy h2
    ·cases h
   ·cases h
  ·split at h
   ·rename_i t hx
    rw[hx]
    cases t<;>exact hi _ _ _ _ _ _ _ _ _ _ _ _ h hq
   ·cases h
 |block id b=>
  simp only [comp,mV] at h
  simp only [pQ]
  cases he:fF id tb<;>simp only [he,cond_true,cond_false] at h
  ·rw[hB id he]
   simp only
   split at h
   ·rename_i i T1 M1 r hx
    obtain⟨F1,k1,q1⟩:=r
    cases hb:Nat.beq i id<;>simp only [hb,cond_true,cond_false,Option.some.injEq,Prod.mk.injEq] at h
    all_goals
     obtain⟨⟨rfl,rfl,rfl⟩,_,_,rfl⟩:=h
     rw[hi _ _ _ _ _ _ _ _ _ _ _ _ hx hq]
     simp only [hb,cond_true,cond_false]
   ·rename_i hn
    rw[hi _ _ _ _ _ _ _ _ _ _ _ _ h hq]
    cases e with
    |exit i=>exact absurd h (hn _ _ _ _)
    |normal=>rfl
    |ret=>rfl
    |goto l=>rfl
  ·split at h
   ·rename_i ks e1 T1 M1 F1 _
    simp only [Option.some.injEq,Prod.mk.injEq] at h
    obtain⟨⟨rfl,rfl,rfl⟩,_,_,rfl⟩:=h
    obtain⟨g,h1,h2⟩:=hq _ (List.mem_singleton.2 rfl)
    rw[h1]
    exact h2 b T rfl rfl
   ·cases h
 |scope c=>
  simp only [comp,mV] at h
  have h':ih nt (comp c) T M F k=some ((e,T',M'),F',k',q)/\ ∀l,e≠ .goto l:=by
   split at h
   ·cases h
   ·rename_i hn
    refine⟨h,fun l hl=> ?_⟩
    subst hl
    exact hn _ _ _ _ h
  have hx:=hi _ _ _ _ _ _ _ _ _ _ _ _ h'.1 hq
  show rS ih' c 100000 c ⟨T,nt,M⟩=_
  unfold rS
  rw[hx]
  cases e with
  |goto l=>exact absurd rfl (h'.2 l)
  |normal=>rfl
  |ret=>rfl
  |exit i=>rfl
 |rangeFunc _ _ _ _=>cases h
 |refuse _=>cases h
 |region id ops draw=>
  cases draw with
  |false=>
   simp only [comp,cond_false,mV] at h
   split at h
   ·rename_i T1 M1 r hs
    obtain⟨F1,k1,q1⟩:=r
    simp only [Option.some.injEq,Prod.mk.injEq] at h
    obtain⟨⟨rfl,rfl,rfl⟩,_,_,rfl⟩:=h
    simp only [pQ,cond_false,oE hK _ _ _ _ _ _ _ _ _ _ hs hq]
   ·cases h
  |true=>
   have fin:kA ops=true/\nQ P GL (fI SP (lX P ih')) ops ⟨T,nt,M⟩=some ⟨T',nt,M'⟩->pQ P GL SP ih' (.region id ops true) ⟨T,nt,M⟩=some (.normal,⟨T',nt,M'⟩):=fun⟨h2,h3⟩=>by
    simp only [pQ,cond_true,h2,h3]
   have h':mV P GL tb ih nt (Mi ops) T M F k=some ((e,T',M'),F',k',q):=h
   have drawnC:mV P GL tb ih nt (Vg ops) T M F k=some ((e,T',M'),F',k',q)->pQ P GL SP ih' (.region id ops true) ⟨T,nt,M⟩=some (e,⟨T',nt,M'⟩):=fun h=>by
    unfold Vg at h
    cases hlx:kA ops<;>simp only [hlx,cond_true,cond_false] at h
    ·cases h
    simp only [mV] at h
    split at h
    ·rename_i T1 M1 r hs
     obtain⟨F1,k1,q1⟩:=r
     simp only [Option.some.injEq,Prod.mk.injEq] at h
     obtain⟨⟨rfl,rfl,rfl⟩,_,_,rfl⟩:=h
     exact fin (Gm hK hs hq)
    ·cases h
   unfold Mi at h'
   cases hc:(kA ops&&Lo (kH ops.toList (bD ops.toList []) ops.toList (bD ops.toList []) 0))<;>simp only [hc,cond_true,cond_false] at h'
   ·exact drawnC h'
   ·simp only [Bool.and_eq_true] at hc
    have hst:=Et hc.2
    split at h'
    ·rename_i hlf
     cases ht:oL ops.toList (bD ops.toList []) 0 []<;>simp only [ht,cond_true,cond_false] at h'
     ·exact drawnC h'
     ·simp only [mV] at h'
      split at h'
      ·rename_i T1 M1 r hs
       obtain⟨F1,k1,q1⟩:=r
       simp only [Option.some.injEq,Prod.mk.injEq] at h'
       obtain⟨⟨rfl,rfl,rfl⟩,_,_,rfl⟩:=h'
       refine fin ⟨hc.1,?_⟩
       have h2:=oE hK _ _ _ _ _ _ _ _ _ _ hs hq
       simp only [nQ,hlf,qM,hst]
       exact(jI (n0:=0) hA _ _ 0 [] [] _ _ ht (fun d hd=>by cases hd) (fun j _=>by rw[Nat.zero_add]) h2).1
      ·cases h'
    ·rename_i f hlf
     cases ht:(oL ops.toList.dropLast (bD ops.toList []) 0 []&&Lo (tF ops.toList (bD ops.toList [])))<;>simp only [ht,cond_true,cond_false] at h'
     ·exact drawnC h'
     ·simp only [Bool.and_eq_true] at ht
      have hsf:=Et ht.2
      have ht:=ht.1
      unfold Ld at h'
      split at h'
      ·rename_i t x y hop
       simp only [mV] at h'
       split at h'
       ·rename_i T1 M1 r hs
        obtain⟨F1,k1,q1⟩:=r
        simp only [Option.some.injEq,Prod.mk.injEq] at h'
        obtain⟨⟨rfl,rfl,rfl⟩,_,_,rfl⟩:=h'
        exact fin ⟨hc.1,Jf hA hK hsf hlf hop ht hs hq⟩
       ·cases h'
      ·cases h'
theorem sF(hN:dU P)(hm:P.follows .mixedOrders=true){tb:List Nat}(hB: ∀id,fF id tb=false->SP.blocks id=none)(hS: ∀B,cJ P GL B SP): ∀n,OOk P SP (oX P GL tb n) (Af P GL SP n)
 |0=>fun nt c T M F k e T' M' F' k' q h _=>by cases h
 |n+1=>Jh hB (sF hN hm hB hS n) (wS (hS 0) (vP hN hm (hS 0) n))
end exec
end Go.Am
end
