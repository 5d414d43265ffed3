/-
  Package hier: each of its laws for every argument; no conditions. The last text states which.
-/
import Derived.Test.YtdaglldahidmbaaAmQ
import Derived.Test.YtdaglldahidmbaaGAmEq
set_option linter.unusedVariables false
set_option linter.unusedSimpArgs false
noncomputable section
namespace Go.Am
open Go
variable{P:Program}{GL:List Nat}{B:Bd}{callF:CallF}{SP:Specs}
inductive OQ where
 |q (x:Qu) (a:Ans)
 |eq (x:Out) (a:Ans)
 |cl (f:FuncId) (args:List Value) (M:Mem) (a:Ans)
 |ln (a:Option Addr) (n c:Nat)
 |blk (id:Nat) (b:QC) (nt:Nat) (ks:List Nat) (vs:List (Option Value)) (M:Mem) (e:AExit) (T':Tr Value) (M':Mem)
def OQ.holds(P:Program)(SP:Specs):OQ→Prop
 | .q x a=>x.holds P SP a
 | .eq x a=>x=some a∧a.1≠0
 | .cl f args M a=>acall (onlySpecs SP) f args M=some a∧a.1≠0
 | .ln a n c=>a.isNone=true→n=0∧c=0
 | .blk id b nt ks vs M e T' M'=> ∃g,SP.blocks id=some g∧ ∀c T,comp c=b→ks.map T.get=vs→g c ⟨T,nt,M⟩=some (e,⟨T',nt,M'⟩)
inductive OF where
 |at(pt:Nat) (a:Ans)
 |blk (pt:Nat) (ks:List Nat) (e:AExit) (T':Tr Value) (M':Mem)
def ofact?:List OF→Nat→Option (Ans×List OF)
 | .at p a::F,c=>bif Nat.beq p c then some (a,F) else none
 |_,_=>none
def oblk?:List OF→Nat→Option (List Nat×AExit×Tr Value×Mem×List OF)
 | .blk p ks e T M::F,c=>bif Nat.beq p c then some (ks,e,T,M,F) else none
 |_,_=>none
abbrev OCol:=List OQ
abbrev OH(α:Type):=Option (α×List OF×Nat×OCol)
def owanted(g:QG)(T:Tr Value)(F:List OF)(c:Nat):OH Bool:=
 match ofact? F c with
 |some (a,F')=>match g with
  | .at d want=>match T.get d,a.2.1 with
   |some (.bool b),.val (.bool t)=>some (t==want,F',c+1,[.q (.bool b) a])
   |_,_=>none
  |_=>none
 |none=>match qwanted g T with
  |some b=>some (b,F,c+1,[])
  |none=>none
def noCalls:CallF:=fun _ _ _=>none
def omk(P:Program)(GL:List Nat)(o:Op)(T:Tr Value)(M:Mem):Option Out:=
 match o with
 | .alloc elem=>some (aalloc P elem M)
 | .box elem x=>match ev GL T x with|some v=>some (abox P elem v M)|none=>none
 | .buildSlice t len parts=>match evParts GL T parts.toList with|some ps=>some (abuildSlice P t len ps M)|none=>none
 | .makeSlice t l c=>match ev GL T l,ev GL T c with|some l,some c=>some (amakeSlice P t l c M)|_,_=>none
 |_=>none
theorem omk_sound{q:QO}{T:Tr Value}{M:Mem}{x:Out}{a:Ans}(h:omk P GL q.op T M=some x)(hx:x=some a)(ha:a.1≠0):aop P GL callF (bare q) T M=some a:=by
 obtain⟨dst,g,op,type⟩:=q
 refine aop_of_one ?_ ?_ ha<;>simp only [bare]<;>simp only [omk] at h<;>split at h<;>try cases h
 all_goals simp only [aop0,aop1]
 all_goals first
  |exact hx
  |(split at h
    ·rename_i hv
     cases h
     simp only [hv]
     exact hx
    ·cases h)
  |(split at h
    ·rename_i h1 h2
     cases h
     simp only [h1,h2]
     exact hx
    ·cases h)
theorem evs_getD{T:Tr Value}: ∀{l:List Operand} {vs:List Value},evs GL T l=some vs→l.map (fun x=>(ev GL T x).getD undef)=vs
 | [],vs,h=>by simp only [evs,Option.some.injEq] at h;subst h;rfl
 |x::l,vs,h=>by
  simp only [evs] at h
  split at h
  ·rename_i v vs' h1 h2
   cases h
   simp only [List.map_cons,h1,Option.getD_some,evs_getD h2]
  ·cases h
def olen(P:Program)(GL:List Nat)(o:Op)(T:Tr Value):Option (Option Addr×Nat×Nat):=
 match o with
 | .call c=>match c.callee with
  | .builtin .len=>match evs GL T c.args.toList,(c.argTypes[0]?).bind (P.underlying ·) with
   |some [.slice a n c],some (.slice _)=>some (a,n,c)
   |_,_=>none
  |_=>none
 |_=>none
theorem olen_sound{q:QO}{T:Tr Value}{M:Mem}{a:Option Addr}{n c:Nat}(h:olen P GL q.op T=some (a,n,c))(hn:a.isNone=true→n=0∧c=0):aop P GL callF (bare q) T M=some (0,.val (.int .i64 n),M):=by
 obtain⟨dst,g,op,type⟩:=q
 simp only at h
 unfold olen at h
 split at h
 ·rename_i c0
  obtain⟨callee,args,argTypes⟩:=c0
  simp only at h
  split at h
  ·split at h
   ·rename_i a' n' c' e hx ht
    simp only [Option.some.injEq,Prod.mk.injEq] at h
    obtain⟨rfl,rfl,rfl⟩:=h
    cases a' with
    |none=>
     obtain⟨rfl,rfl⟩:=hn rfl
     have hr:pureRun P (execOp (fun x=>(ev GL T x).getD undef) (bare ⟨dst,g,.call ⟨.builtin .len,args,argTypes⟩,type⟩))=some (.value (.int .i64 0)):=by
      have hm:args.map (fun x=>(ev GL T x).getD undef)= #[.slice none 0 0]:=by
       apply Array.ext'
       simp only [Array.toList_map]
       exact evs_getD hx
      cases hr:argTypes[0]? with
      |none=>rw[hr] at ht;cases ht
      |some t0=>
       rw[hr] at ht
       simp only [Option.bind_some] at ht
       simp [bare,execOp,resolve,invoke,builtin,hm,Builtin.len_,hr,goInt,underlying,program,bind,Sem.bind,pureRun,pure,ht]
     have hf:aflat P GL (bare ⟨dst,g,.call ⟨.builtin .len,args,argTypes⟩,type⟩) T=some (.val (.int .i64 0)):=by
      unfold aflat
      have:evs GL T (bare ⟨dst,g,.call ⟨.builtin .len,args,argTypes⟩,type⟩).op.operands.toList=some [.slice none 0 0]:=by
       simpa [bare,Op.operands,Call.operands] using hx
      rw[this]
      simp only [flatL,flat,Option.isNone_none,Bool.and_true,Nat.beq_refl,cond_true,hr]
     unfold aop
     simp only [bare] at hf⊢
     simp only [aop0,orFlat,hf]
     rfl
    |some a=>
     unfold aop
     simp only [bare,aop0,orFlat,hx,ht]
     have:aflat P GL ({dst:=dst,op:= .call ⟨.builtin .len,args,argTypes⟩,type:=type,pos:= "",after:= #[],guard:=none}:Oper) T=none:=by
      unfold aflat
      have:evs GL T ({dst:=dst,op:= .call ⟨.builtin .len,args,argTypes⟩,type:=type,pos:= "",after:= #[],guard:=none}:Oper).op.operands.toList=some [.slice (some a) n' c']:=by
       simpa [Op.operands,Call.operands] using hx
      rw[this]
      simp [flatL,flat]
     rw[this]
     rfl
   ·cases h
  ·cases h
 ·cases h
def oopr(P:Program)(GL:List Nat)(q:QO)(T:Tr Value)(M:Mem)(F:List OF)(c:Nat):OH Ans:=
 match ofact? F c with
 |some (a,F')=>match omk P GL q.op T M with
  |some x=>some (a,F',c+1,[.eq x a])
  |none=>match olen P GL q.op T with
  |some (a,n,cp)=>some ((0,.val (.int .i64 n),M),F',c+1,[.ln a n cp])
  |none=>match calleeAny P GL (bare q) T with
   |some (g,args)=>match aop0 P GL (bare q) T with
    |none=>some (a,F',c+1,[.cl g args M a])
    |some _=>none
   |none=>match hop P GL (bare q) T M a with
    |some (r,x)=>some (r,F',c+1,[.q x a])
    |none=>none
 |none=>match aop P GL noCalls (bare q) T M with
  |some r=>some (r,F,c+1,[])
  |none=>none
def oput(nt:Nat)(dst:Option Nat)(r:AR)(T:Tr Value):Option (Tr Value):=
 match dst,r with
 |none,_=>some T
 |some d,.val v=>bif Nat.blt d nt then some (T.set d (some v)) else none
 |some d,.skip=>bif Nat.blt d nt then some (T.set d (some undef)) else none
def oseq(P:Program)(GL:List Nat)(nt:Nat):List QO→Tr Value→Mem→List OF→Nat→OH (Tr Value×Mem)
 | [],T,M,F,c=>some ((T,M),F,c,[])
 |q::l,T,M,F,c=>match owanted q.g T F c with
  |some (true,F1,c1,q1)=>match oopr P GL q T M F1 c1 with
   |some ((_,r,M'),F2,c2,q2)=>match oput nt q.dst r T with
    |some T'=>match oseq P GL nt l T' M' F2 c2 with
     |some (x,F3,c3,q3)=>some (x,F3,c3,q1++q2++q3)
     |none=>none
    |none=>none
   |none=>none
  |some (false,F1,c1,q1)=>match oput nt q.dst .skip T with
   |some T'=>match oseq P GL nt l T' M F1 (c1+1) with
    |some (x,F3,c3,q3)=>some (x,F3,c3,q1++q3)
    |none=>none
   |none=>none
  |none=>none
def stillB(GL:List Nat)(o:Oper)(T:Tr Value):Option Nat:=
 match o.op with
 | .load _ x=>match ev GL T x with
  |some (.pointer (some a))=>some a.block
  |_=>none
 |_=>none
def odraw(P:Program)(GL:List Nat)(nt:Nat)(ops:Array Oper)(before sl:List Nat)(n0:Nat):List Oper→Nat→List Done→List Nat→Tr Value→Mem→List OF→Nat→OH (Tr Value×Mem×List Nat)
 | [],_,_,S,T,M,F,c=>some ((T,M,S),F,c,[])
 |o::rest,i,dn,S,T,M,F,c=>match owanted (cg ops o) T F c,before[i]? with
  |some (true,F1,c1,q1),some deps=>match oopr P GL (cop ops o) T {M with hide:=hides deps dn++M.hide} F1 c1 with
   |some ((k,r,M'),F2,c2,q2)=>match oput nt o.dst r T with
    |some T'=>bif elemN i sl then
      match stillB GL o T with
      |some b=>match odraw P GL nt ops before sl n0 rest (i+1) dn (b::S) T' M F2 c2 with
       |some (x,F3,c3,q3)=>some (x,F3,c3,q1++q2++OQ.q (.bool (Nat.blt b n0)) (ansB true)::q3)
       |none=>none
      |none=>none
     else bif mayD ops o deps k dn then
      match odraw P GL nt ops before sl n0 rest (i+1) (⟨i,k,M.next,M'.next⟩::dn) S T' {M' with hide:=M.hide} F2 c2 with
      |some (x,F3,c3,q3)=>some (x,F3,c3,q1++q2++q3)
      |none=>none
     else none
    |none=>none
   |none=>none
  |some (false,F1,c1,q1),some _=>match oput nt o.dst .skip T with
   |some T'=>match odraw P GL nt ops before sl n0 rest (i+1) dn S T' M F1 (c1+1) with
    |some (x,F3,c3,q3)=>some (x,F3,c3,q1++q3)
    |none=>none
   |none=>none
  |_,_=>none
def odrawn(P:Program)(GL:List Nat)(nt:Nat)(ops:Array Oper)(T:Tr Value)(M:Mem)(F:List OF)(c:Nat):OH (Tr Value×Mem):=
 bif lexOk ops then
  match lastFree ops.toList (befores ops.toList []) with
  |some _=>none
  |none=>match stillOps ops.toList (befores ops.toList []) ops.toList (befores ops.toList []) 0 with
   | []=>match odraw P GL nt ops (befores ops.toList []) [] 0 ops.toList 0 [] [] T M F c with
    |some ((T',M',_),r)=>some ((T',M'),r)
    |none=>none
   |x::l=>match odraw P GL nt ops (befores ops.toList []) (x::l) M.next ops.toList 0 [] [] T {M with log:= []} F c with
    |some ((T',M',S),F1,c1,q)=>some ((T',{M' with log:=M'.log++M.log}),F1,c1,q++ [OQ.q (.bool (apartN S M'.log)) (ansB true)])
    |none=>none
 else none
def ofree(P:Program)(GL:List Nat)(nt:Nat)(l:List QO)(x y:Operand)(t:TypeId)(T:Tr Value)(M:Mem)(F:List OF)(c:Nat):OH (Tr Value×Mem):=
 match oseq P GL nt l T {M with log:= []} F c with
 |some ((T1,M1),F1,c1,q1)=>match ofact? F1 c1,ev GL T1 x,ev GL T1 y with
  |some ((2,.skip,M2),F2),some (.pointer (some a)),some v=>
   some ((T1,{M2 with log:=M2.log++M.log}),F2,c1+1,q1++ [OQ.q (.store t a v M1) (2,.skip,M2),OQ.q (.bool (Nat.blt a.block M.next&& !(elemN a.block M1.log))) (ansB true)])
  |_,_,_=>none
 |none=>none
abbrev OX:=Nat→QC→Tr Value→Mem→List OF→Nat→OH (AExit×Tr Value×Mem)
def ostep(P:Program)(GL:List Nat)(tb:List Nat)(ih:OX)(nt:Nat)(c:QC)(T:Tr Value)(M:Mem)(F:List OF)(k:Nat):OH (AExit×Tr Value×Mem):=
 match c with
 | .skip=>some ((.normal,T,M),F,k,[])
 | .plain l=>match oseq P GL nt l T M F k with
  |some ((T',M'),r)=>some ((.normal,T',M'),r)
  |none=>none
 | .free l t x y=>match ofree P GL nt l x y t T M F k with
  |some ((T',M'),r)=>some ((.normal,T',M'),r)
  |none=>none
 | .drawn ops _ _ _=>match odrawn P GL nt ops T M F k with
  |some ((T',M'),r)=>some ((.normal,T',M'),r)
  |none=>none
 | .seq a b=>match ih nt a T M F k with
  |some ((.normal,T1,M1),F1,k1,q1)=>match ih nt b T1 M1 F1 k1 with
   |some (r,F2,k2,q2)=>some (r,F2,k2,q1++q2)
   |none=>none
  |r=>r
 | .cond x a b=>match ofact? F k with
  |some (an,F')=>match ev GL T x,an.2.1 with
   |some (.bool v),.val (.bool t)=>match ih nt (bif t then a else b) T M F' (k+1) with
    |some (r,F2,k2,q2)=>some (r,F2,k2,OQ.q (.bool v) an::q2)
    |none=>none
   |_,_=>none
  |none=>match ev GL T x with
   |some (.bool t)=>ih nt (bif t then a else b) T M F (k+1)
   |_=>none
 | .block id b=>bif elemN id tb then match oblk? F k with
   |some (ks,e,T',M',F')=>some ((e,T',M'),F',k+1,[.blk id b nt ks (ks.map T.get) M e T' M'])
   |none=>none
  else match ih nt b T M F k with
   |some ((.exit i,T',M'),r)=>bif Nat.beq i id then some ((.normal,T',M'),r) else some ((.exit i,T',M'),r)
   |r=>r
 | .loop b=>match ih nt b T M F k with
  |some ((.normal,T1,M1),F1,k1,q1)=>match ih nt (.loop b) T1 M1 F1 k1 with
   |some (r,F2,k2,q2)=>some (r,F2,k2,q1++q2)
   |none=>none
  |r=>r
 | .exit id=>some ((.exit id,T,M),F,k,[])
 | .ret=>some ((.ret,T,M),F,k,[])
 | .label _=>some ((.normal,T,M),F,k,[])
 | .goto l=>some ((.goto l,T,M),F,k,[])
 | .scope c=>match ih nt c T M F k with
  |some ((.goto _,_,_),_)=>none
  |r=>r
 | .bad=>none
def oexec(P:Program)(GL:List Nat)(tb:List Nat)(n:Nat):OX:=
 Nat.rec (motive:=fun _=>OX) (fun _ _ _ _ _ _=>none) (fun _ ih=>ostep P GL tb ih) n
def OHold(P:Program)(SP:Specs)(q:OCol):Prop:= ∀p∈q,p.holds P SP
theorem OHold.left{q1 q2:OCol}(h:OHold P SP (q1++q2)):OHold P SP q1:=fun p hp=>h p (by simp [hp])
theorem OHold.right{q1 q2:OCol}(h:OHold P SP (q1++q2)):OHold P SP q2:=fun p hp=>h p (by simp [hp])
theorem owanted_sound{ops:Array Oper}{o:Oper}{T:Tr Value}{F F':List OF}{c c':Nat}{b:Bool}{q:OCol}(h:owanted (cg ops o) T F c=some (b,F',c',q))(hq:OHold P SP q):awanted ops T o=some b:=by
 rw[←qwanted_eq]
 unfold owanted at h
 split at h
 ·rename_i a F1 _
  generalize cg ops o=g at h⊢
  cases g with
  |no=>cases h
  |bad=>cases h
  |«at» d want=>
   simp only at h
   split at h
   ·rename_i v t hT ha
    simp only [Option.some.injEq,Prod.mk.injEq] at h
    obtain⟨rfl,_,_,rfl⟩:=h
    have:=hq _ (List.mem_singleton.2 rfl)
    simp only [OQ.holds,Qu.holds] at this
    rw[ha] at this
    cases this
    simp only [qwanted,hT]
   ·cases h
 ·split at h
  ·rename_i b' hb
   simp only [Option.some.injEq,Prod.mk.injEq] at h
   obtain⟨rfl,_⟩:=h
   exact hb
  ·cases h
theorem oopr_sound(hK:Knows SP callF){ops:Array Oper}{o:Oper}{T:Tr Value}{M:Mem}{F F':List OF}{c c':Nat}{r:Ans}{q:OCol}(h:oopr P GL (cop ops o) T M F c=some (r,F',c',q))(hq:OHold P SP q):aop P GL callF o T M=some r:=by
 rw[←aop_bare (ops:=ops)]
 unfold oopr at h
 split at h
 ·split at h
  ·rename_i x hm
   simp only [Option.some.injEq,Prod.mk.injEq] at h
   obtain⟨rfl,_,_,rfl⟩:=h
   obtain⟨h1,h2⟩:=hq _ (List.mem_singleton.2 rfl)
   exact omk_sound hm h1 h2
  ·split at h
   ·rename_i a n cp hm
    simp only [Option.some.injEq,Prod.mk.injEq] at h
    obtain⟨rfl,_,_,rfl⟩:=h
    exact olen_sound hm (hq _ (List.mem_singleton.2 rfl))
   split at h
   ·rename_i g args hg
    split at h
    ·rename_i h0
     simp only [Option.some.injEq,Prod.mk.injEq] at h
     obtain⟨rfl,_,_,rfl⟩:=h
     obtain⟨h1,h2⟩:=hq _ (List.mem_singleton.2 rfl)
     refine aop_of_one h0 ?_ h2
     rw[calleeAny_sound hg]
     exact acall_more hK h1
    ·cases h
   ·split at h
    ·rename_i r' x hr
     simp only [Option.some.injEq,Prod.mk.injEq] at h
     obtain⟨rfl,_,_,rfl⟩:=h
     exact hop_sound hK hr (hq _ (List.mem_singleton.2 rfl))
    ·cases h
 ·split at h
  ·rename_i r' hr
   simp only [Option.some.injEq,Prod.mk.injEq] at h
   obtain⟨rfl,_⟩:=h
   exact aseq_more (fun f a M r h=>by cases h) hr
  ·cases h
theorem oput_sound{nt:Nat}{o:Oper}{r:AR}{T T':Tr Value}(M:Mem)(h:oput nt o.dst r T=some T'):aput o r ⟨T,nt,M⟩=some ⟨T',nt,M⟩:=by
 unfold oput at h
 unfold aput
 split at h
 ·rename_i hd;cases h;rw[hd]
 ·rename_i d v hd
  cases hb:Nat.blt d nt<;>simp only [hb,cond_true,cond_false] at h
  ·cases h
  ·cases h;simp only [hd,hb,cond_true]
 ·rename_i d hd
  cases hb:Nat.blt d nt<;>simp only [hb,cond_true,cond_false] at h
  ·cases h
  ·cases h;simp only [hd,hb,cond_true]
theorem oseq_sound(hK:Knows SP callF){ops:Array Oper}{nt:Nat}: ∀(l:List Oper) (T:Tr Value) (M:Mem) (F:List OF) (c:Nat) (T':Tr Value) (M':Mem) (F':List OF) (c':Nat) (q:OCol),
  oseq P GL nt (l.map (cop ops)) T M F c=some ((T',M'),F',c',q)→OHold P SP q→aseq P GL callF ops l ⟨T,nt,M⟩=some ⟨T',nt,M'⟩
 | [],T,M,F,c,T',M',F',c',q,h,_=>by
  simp only [List.map_nil,oseq,Option.some.injEq,Prod.mk.injEq] at h
  obtain⟨⟨rfl,rfl⟩,_⟩:=h
  rfl
 |o::l,T,M,F,c,T',M',F',c',q,h,hq=>by
  simp only [List.map_cons,oseq] at h
  simp only [aseq]
  split at h
  ·rename_i F1 c1 q1 hw
   split at h
   ·rename_i k r M1 F2 c2 q2 ho
    split at h
    ·rename_i T1 hp
     split at h
     ·rename_i x F3 c3 q3 hs
      simp only [Option.some.injEq,Prod.mk.injEq] at h
      obtain⟨rfl,_,_,rfl⟩:=h
      have hw':=owanted_sound (P:=P) (SP:=SP) (o:=o) hw hq.left.left
      have ho':=oopr_sound hK (o:=o) ho hq.left.right
      simp only [hw',ho',oput_sound (o:=o) M1 hp]
      exact oseq_sound hK l T1 M1 F2 c2 T' M' _ _ q3 hs hq.right
     ·cases h
    ·cases h
   ·cases h
  ·rename_i F1 c1 q1 hw
   split at h
   ·rename_i T1 hp
    split at h
    ·rename_i x F3 c3 q3 hs
     simp only [Option.some.injEq,Prod.mk.injEq] at h
     obtain⟨rfl,_,_,rfl⟩:=h
     have hw':=owanted_sound (P:=P) (SP:=SP) (o:=o) hw hq.left
     simp only [hw',oput_sound (o:=o) M hp]
     exact oseq_sound hK l T1 M _ _ T' M' _ _ q3 hs hq.right
    ·cases h
   ·cases h
  ·cases h
theorem hold_bool{b:Bool}(h:OQ.holds P SP (.q (.bool b) (ansB true))):b=true:=by
 simp only [OQ.holds,Qu.holds,ansB] at h
 cases h;rfl
theorem odraw_sound(hK:Knows SP callF){ops:Array Oper}{nt n0:Nat}{before sl:List Nat}: ∀(l:List Oper) (i:Nat) (dn:List Done) (S:List Nat) (T:Tr Value) (M:Mem) (F:List OF) (c:Nat) (T':Tr Value) (M':Mem) (S':List Nat) (F':List OF) (c':Nat) (q:OCol),
  odraw P GL nt ops before sl n0 l i dn S T M F c=some ((T',M',S'),F',c',q)→OHold P SP q→adraw2 P GL callF ops before sl n0 l i dn S ⟨T,nt,M⟩=some (⟨T',nt,M'⟩,S')∧(sl= []→adraw P GL callF ops before l i dn ⟨T,nt,M⟩=some ⟨T',nt,M'⟩)
 | [],i,dn,S,T,M,F,c,T',M',S',F',c',q,h,_=>by
  simp only [odraw,Option.some.injEq,Prod.mk.injEq] at h
  obtain⟨⟨rfl,rfl,rfl⟩,_⟩:=h
  exact⟨rfl,fun _=>rfl⟩
 |o::l,i,dn,S,T,M,F,c,T',M',S',F',c',q,h,hq=>by
  simp only [odraw] at h
  simp only [adraw2,adraw]
  split at h
  ·rename_i F1 c1 q1 deps hw hd
   split at h
   ·rename_i k r M1 F2 c2 q2 ho
    split at h
    ·rename_i T1 hp
     cases he:elemN i sl<;>simp only [he,cond_true,cond_false] at h
     ·cases hm:mayD ops o deps k dn<;>simp only [hm,cond_true,cond_false] at h
      ·cases h
      ·split at h
       ·rename_i x F3 c3 q3 hs
        simp only [Option.some.injEq,Prod.mk.injEq] at h
        obtain⟨rfl,_,_,rfl⟩:=h
        have hw':=owanted_sound (P:=P) (SP:=SP) (o:=o) hw hq.left.left
        have ho':=oopr_sound hK (o:=o) ho hq.left.right
        have ih:=odraw_sound hK l (i+1) _ S T1 _ F2 c2 T' M' S' _ _ q3 hs hq.right
        have hst:stillAt GL sl n0 o i T=none:=by unfold stillAt;rw[he];rfl
        have hp':=oput_sound (o:=o) {M1 with hide:=M.hide} hp
        refine⟨?_,fun hsl=> ?_⟩
        ·simp only [hw',hd,ho',hst,hm,cond_true]
         rw[show({T:=T,n:=nt,M:={M1 with hide:=M.hide}}:St)=⟨T,nt,{M1 with hide:=M.hide}⟩ from rfl,hp']
         exact ih.1
        ·simp only [hw',hd,ho',hm,cond_true]
         rw[show({T:=T,n:=nt,M:={M1 with hide:=M.hide}}:St)=⟨T,nt,{M1 with hide:=M.hide}⟩ from rfl,hp']
         exact ih.2 hsl
       ·cases h
     ·split at h
      ·rename_i b hb
       split at h
       ·rename_i x F3 c3 q3 hs
        simp only [Option.some.injEq,Prod.mk.injEq] at h
        obtain⟨rfl,_,_,rfl⟩:=h
        have hw':=owanted_sound (P:=P) (SP:=SP) (o:=o) hw hq.left.left
        have ho':=oopr_sound hK (o:=o) ho hq.left.right
        have hq3:OHold P SP q3:=fun p hp=>hq.right p (List.mem_cons_of_mem _ hp)
        have hlt:Nat.blt b n0=true:=hold_bool (hq.right _ (List.mem_cons_self ..))
        have ih:=odraw_sound hK l (i+1) dn (b::S) T1 M F2 c2 T' M' S' _ _ q3 hs hq3
        have hst:stillAt GL sl n0 o i T=some b:=by
         unfold stillAt oldLoad
         rw[he]
         unfold stillB at hb
         simp only [cond_true]
         split at hb
         ·rename_i t x hop
          split at hb
          ·rename_i a hx
           cases hb
           simp only [hop,hx,hlt,cond_true]
          ·cases hb
         ·cases hb
        refine⟨?_,fun hsl=> ?_⟩
        ·simp only [hw',hd,ho',hst,oput_sound (o:=o) M hp]
         exact ih.1
        ·subst hsl;cases he
       ·cases h
      ·cases h
    ·cases h
   ·cases h
  ·rename_i F1 c1 q1 deps hw hd
   split at h
   ·rename_i T1 hp
    split at h
    ·rename_i x F3 c3 q3 hs
     simp only [Option.some.injEq,Prod.mk.injEq] at h
     obtain⟨rfl,_,_,rfl⟩:=h
     have hw':=owanted_sound (P:=P) (SP:=SP) (o:=o) hw hq.left
     have ih:=odraw_sound hK l (i+1) dn S T1 M _ _ T' M' S' _ _ q3 hs hq.right
     refine⟨?_,fun hsl=> ?_⟩
     ·simp only [hw',hd,oput_sound (o:=o) M hp]
      exact ih.1
     ·simp only [hw',hd,oput_sound (o:=o) M hp]
      exact ih.2 hsl
    ·cases h
   ·cases h
  ·cases h
theorem odrawn_sound(hK:Knows SP callF){ops:Array Oper}{nt:Nat}{T T':Tr Value}{M M':Mem}{F F':List OF}{c c':Nat}{q:OCol}(h:odrawn P GL nt ops T M F c=some ((T',M'),F',c',q))(hq:OHold P SP q):
  lexOk ops=true∧adrawn P GL callF ops ⟨T,nt,M⟩=some ⟨T',nt,M'⟩:=by
 unfold odrawn at h
 cases hl:lexOk ops<;>simp only [hl,cond_true,cond_false] at h
 ·cases h
 refine⟨rfl,?_⟩
 split at h
 ·cases h
 ·rename_i hf
  simp only [adrawn,hf,adrawn0]
  split at h
  ·rename_i hs
   split at h
   ·rename_i T1 M1 S1 r ho
    obtain⟨F2,c2,q2⟩:=r
    simp only [Option.some.injEq,Prod.mk.injEq] at h
    obtain⟨⟨rfl,rfl⟩,_,_,rfl⟩:=h
    simp only [hs]
    exact(odraw_sound hK _ _ _ _ _ _ _ _ _ _ _ _ _ _ ho hq).2 rfl
   ·cases h
  ·rename_i x l hs
   split at h
   ·rename_i T1 M1 S1 F2 c2 q2 ho
    simp only [Option.some.injEq,Prod.mk.injEq] at h
    obtain⟨⟨rfl,rfl⟩,_,_,rfl⟩:=h
    have h1:=(odraw_sound hK _ _ _ _ _ _ _ _ _ _ _ _ _ _ ho hq.left).1
    have hap:apartN S1 M1.log=true:=hold_bool (hq.right _ (List.mem_singleton.2 rfl))
    simp only [hs]
    rw[show afresh ⟨T,nt,M⟩=(⟨T,nt,{M with log:= []}⟩:St) from rfl,h1]
    simp only [hap,cond_true,ajoin]
   ·cases h
theorem ofree_sound(hA:CallAbs callF)(hK:Knows SP callF){ops:Array Oper}(hst:stillsF ops.toList (befores ops.toList [])= []){f:Oper}(hlf:lastFree ops.toList (befores ops.toList [])=some f){t:TypeId}{x y:Operand}(hop:f.op= .store t x y)
  (ht:tameGo ops.toList.dropLast (befores ops.toList []) 0 []=true) {nt:Nat} {T T':Tr Value} {M M':Mem} {F F':List OF} {c c':Nat} {q:OCol} (h:ofree P GL nt (ops.toList.dropLast.map (cop ops)) x y t T M F c=some ((T',M'),F',c',q)) (hq:OHold P SP q):
  adrawn P GL callF ops ⟨T,nt,M⟩=some ⟨T',nt,M'⟩:=by
 unfold ofree at h
 split at h
 ·rename_i T1 M1 F1 c1 q1 hs
  split at h
  ·rename_i M2 F2 a v hf hx hy
   simp only [Option.some.injEq,Prod.mk.injEq] at h
   obtain⟨⟨rfl,rfl⟩,_,_,rfl⟩:=h
   have h2:=oseq_sound hK _ _ _ _ _ _ _ _ _ _ hs hq.left
   have h3:=(adraw2_of_tame (n0:=M.next) hA _ _ 0 [] [] _ _ ht (fun d hd=>by cases hd) (fun j _=>by rw[Nat.zero_add]) h2).2
   have hst':OQ.holds P SP (.q (.store t a v M1) (2,.skip,M2)):=hq.right _ (by simp)
   have hb:(Nat.blt a.block M.next&& !(elemN a.block M1.log))=true:=hold_bool (hq.right _ (by simp))
   have hstore:astore P t a v M1=some M2:=by
    simp only [OQ.holds,Qu.holds] at hst'
    obtain⟨M3,e1,e2⟩:=hst'
    cases e1;exact e2
   simp only [adrawn,hlf,adrawF,hst]
   rw[show afresh ⟨T,nt,M⟩=(⟨T,nt,{M with log:= []}⟩:St) from rfl,h3]
   simp only [apartN,cond_true,finF,hop,hx,hy,hstore,hb,ajoin]
  ·cases h
 ·cases h
section exec
def OOk(P:Program)(SP:Specs)(ih:OX)(ih':Code→St→Option (AExit×St)):Prop:= ∀nt c T M F k e T' M' F' k' q,ih nt (comp c) T M F k=some ((e,T',M'),F',k',q)→OHold P SP q→ih' c ⟨T,nt,M⟩=some (e,⟨T',nt,M'⟩)
theorem ostep_sound{tb:List Nat}(hB: ∀id,elemN id tb=false→SP.blocks id=none){ih:OX}{ih':Code→St→Option (AExit×St)}(hi:OOk P SP ih ih')(hA:CallAbs (viaSpecs SP (aenter P ih'))):OOk P SP (ostep P GL tb ih) (astep P GL SP ih'):=fun nt c T M F k e T' M' F' k' q h hq=>by
 have hK:Knows SP (viaSpecs SP (aenter P ih')):=knows_via SP _
 have seqc: ∀(a b:Code),(match ih nt (comp a) T M F k with
   |some ((.normal,T1,M1),F1,k1,q1)=>match ih nt (comp b) T1 M1 F1 k1 with
    |some (r,F2,k2,q2)=>some (r,F2,k2,q1++q2)
    |none=>none
   |r=>r)=some ((e,T',M'),F',k',q)→(match ih' a ⟨T,nt,M⟩ with|some (.normal,s')=>ih' b s'|r=>r)=some (e,⟨T',nt,M'⟩):=fun a b h=>by
  split at h
  ·rename_i T1 M1 F1 k1 q1 hx
   split at h
   ·rename_i r F2 k2 q2 hy
    simp only [Option.some.injEq,Prod.mk.injEq] at h
    obtain⟨rfl,_,_,rfl⟩:=h
    rw[hi _ _ _ _ _ _ _ _ _ _ _ _ hx hq.left]
    exact hi _ _ _ _ _ _ _ _ _ _ _ _ hy hq.right
   ·cases h
  ·rename_i hn
   rw[hi _ _ _ _ _ _ _ _ _ _ _ _ h hq]
   cases e with
   |normal=>exact absurd h (hn _ _ _ _ _)
   |exit i=>rfl
   |ret=>rfl
   |goto l=>rfl
 cases c with
 |skip=>
  simp only [comp,ostep,Option.some.injEq,Prod.mk.injEq] at h
  obtain⟨⟨rfl,rfl,rfl⟩,_⟩:=h
  rfl
 |exit id=>
  simp only [comp,ostep,Option.some.injEq,Prod.mk.injEq] at h
  obtain⟨⟨rfl,rfl,rfl⟩,_⟩:=h
  rfl
 |ret=>
  simp only [comp,ostep,Option.some.injEq,Prod.mk.injEq] at h
  obtain⟨⟨rfl,rfl,rfl⟩,_⟩:=h
  rfl
 |label l=>
  simp only [comp,ostep,Option.some.injEq,Prod.mk.injEq] at h
  obtain⟨⟨rfl,rfl,rfl⟩,_⟩:=h
  rfl
 |goto l=>
  simp only [comp,ostep,Option.some.injEq,Prod.mk.injEq] at h
  obtain⟨⟨rfl,rfl,rfl⟩,_⟩:=h
  rfl
 |seq a b=>exact seqc a b h
 |loop b=>exact seqc b (.loop b) h
 |cond x a b=>
  simp only [comp,ostep] at h
  simp only [astep]
  split at h
  ·rename_i an F1 _
   split at h
   ·rename_i v t hx ha
    split at h
    ·rename_i r F2 k2 q2 hy
     simp only [Option.some.injEq,Prod.mk.injEq] at h
     obtain⟨rfl,_,_,rfl⟩:=h
     have h1:=hq _ (List.mem_cons_self ..)
     simp only [OQ.holds,Qu.holds] at h1
     rw[ha] at h1
     cases h1
     rw[hx]
     have h2:OHold P SP q2:=fun p hp=>hq p (List.mem_cons_of_mem _ hp)
     cases v<;>exact hi _ _ _ _ _ _ _ _ _ _ _ _ hy h2
    ·cases h
   ·cases h
  ·split at h
   ·rename_i t hx
    rw[hx]
    cases t<;>exact hi _ _ _ _ _ _ _ _ _ _ _ _ h hq
   ·cases h
 |block id b=>
  simp only [comp,ostep] at h
  simp only [astep]
  cases he:elemN id tb<;>simp only [he,cond_true,cond_false] at h
  ·rw[hB id he]
   simp only
   split at h
   ·rename_i i T1 M1 r hx
    obtain⟨F1,k1,q1⟩:=r
    cases hb:Nat.beq i id<;>simp only [hb,cond_true,cond_false,Option.some.injEq,Prod.mk.injEq] at h
    all_goals
     obtain⟨⟨rfl,rfl,rfl⟩,_,_,rfl⟩:=h
     rw[hi _ _ _ _ _ _ _ _ _ _ _ _ hx hq]
     simp only [hb,cond_true,cond_false]
   ·rename_i hn
    rw[hi _ _ _ _ _ _ _ _ _ _ _ _ h hq]
    cases e with
    |exit i=>exact absurd h (hn _ _ _ _)
    |normal=>rfl
    |ret=>rfl
    |goto l=>rfl
  ·split at h
   ·rename_i ks e1 T1 M1 F1 _
    simp only [Option.some.injEq,Prod.mk.injEq] at h
    obtain⟨⟨rfl,rfl,rfl⟩,_,_,rfl⟩:=h
    obtain⟨g,h1,h2⟩:=hq _ (List.mem_singleton.2 rfl)
    rw[h1]
    exact h2 b T rfl rfl
   ·cases h
 |scope c=>
  simp only [comp,ostep] at h
  have h':ih nt (comp c) T M F k=some ((e,T',M'),F',k',q)∧ ∀l,e≠ .goto l:=by
   split at h
   ·cases h
   ·rename_i hn
    refine⟨h,fun l hl=> ?_⟩
    subst hl
    exact hn _ _ _ _ h
  have hx:=hi _ _ _ _ _ _ _ _ _ _ _ _ h'.1 hq
  show ascope ih' c 100000 c ⟨T,nt,M⟩=_
  unfold ascope
  rw[hx]
  cases e with
  |goto l=>exact absurd rfl (h'.2 l)
  |normal=>rfl
  |ret=>rfl
  |exit i=>rfl
 |rangeFunc _ _ _ _=>cases h
 |refuse _=>cases h
 |region id ops draw=>
  cases draw with
  |false=>
   simp only [comp,cond_false,ostep] at h
   split at h
   ·rename_i T1 M1 r hs
    obtain⟨F1,k1,q1⟩:=r
    simp only [Option.some.injEq,Prod.mk.injEq] at h
    obtain⟨⟨rfl,rfl,rfl⟩,_,_,rfl⟩:=h
    simp only [astep,cond_false,oseq_sound hK _ _ _ _ _ _ _ _ _ _ hs hq]
   ·cases h
  |true=>
   have fin:lexOk ops=true∧adrawn P GL (viaSpecs SP (aenter P ih')) ops ⟨T,nt,M⟩=some ⟨T',nt,M'⟩→astep P GL SP ih' (.region id ops true) ⟨T,nt,M⟩=some (.normal,⟨T',nt,M'⟩):=fun⟨h2,h3⟩=>by
    simp only [astep,cond_true,h2,h3]
   have h':ostep P GL tb ih nt (compR ops) T M F k=some ((e,T',M'),F',k',q):=h
   have drawnC:ostep P GL tb ih nt (drO ops) T M F k=some ((e,T',M'),F',k',q)→astep P GL SP ih' (.region id ops true) ⟨T,nt,M⟩=some (e,⟨T',nt,M'⟩):=fun h=>by
    unfold drO at h
    cases hlx:lexOk ops<;>simp only [hlx,cond_true,cond_false] at h
    ·cases h
    simp only [ostep] at h
    split at h
    ·rename_i T1 M1 r hs
     obtain⟨F1,k1,q1⟩:=r
     simp only [Option.some.injEq,Prod.mk.injEq] at h
     obtain⟨⟨rfl,rfl,rfl⟩,_,_,rfl⟩:=h
     exact fin (odrawn_sound hK hs hq)
    ·cases h
   unfold compR at h'
   cases hc:(lexOk ops&&nilB (stillOps ops.toList (befores ops.toList []) ops.toList (befores ops.toList []) 0))<;>simp only [hc,cond_true,cond_false] at h'
   ·exact drawnC h'
   ·simp only [Bool.and_eq_true] at hc
    have hst:=nilB_spec hc.2
    split at h'
    ·rename_i hlf
     cases ht:tameGo ops.toList (befores ops.toList []) 0 []<;>simp only [ht,cond_true,cond_false] at h'
     ·exact drawnC h'
     ·simp only [ostep] at h'
      split at h'
      ·rename_i T1 M1 r hs
       obtain⟨F1,k1,q1⟩:=r
       simp only [Option.some.injEq,Prod.mk.injEq] at h'
       obtain⟨⟨rfl,rfl,rfl⟩,_,_,rfl⟩:=h'
       refine fin ⟨hc.1,?_⟩
       have h2:=oseq_sound hK _ _ _ _ _ _ _ _ _ _ hs hq
       simp only [adrawn,hlf,adrawn0,hst]
       exact(adraw2_of_tame (n0:=0) hA _ _ 0 [] [] _ _ ht (fun d hd=>by cases hd) (fun j _=>by rw[Nat.zero_add]) h2).1
      ·cases h'
    ·rename_i f hlf
     cases ht:(tameGo ops.toList.dropLast (befores ops.toList []) 0 []&&nilB (stillsF ops.toList (befores ops.toList [])))<;>simp only [ht,cond_true,cond_false] at h'
     ·exact drawnC h'
     ·simp only [Bool.and_eq_true] at ht
      have hsf:=nilB_spec ht.2
      have ht:=ht.1
      unfold freeOf at h'
      split at h'
      ·rename_i t x y hop
       simp only [ostep] at h'
       split at h'
       ·rename_i T1 M1 r hs
        obtain⟨F1,k1,q1⟩:=r
        simp only [Option.some.injEq,Prod.mk.injEq] at h'
        obtain⟨⟨rfl,rfl,rfl⟩,_,_,rfl⟩:=h'
        exact fin ⟨hc.1,ofree_sound hA hK hsf hlf hop ht hs hq⟩
       ·cases h'
      ·cases h'
theorem oexec_sound(hN:noNum P)(hm:P.follows .mixedOrders=true){tb:List Nat}(hB: ∀id,elemN id tb=false→SP.blocks id=none)(hS: ∀B,SpecsOk P GL B SP): ∀n,OOk P SP (oexec P GL tb n) (aexec P GL SP n)
 |0=>fun nt c T M F k e T' M' F' k' q h _=>by cases h
 |n+1=>ostep_sound hB (oexec_sound hN hm hB hS n) (viaSpecs_abs (hS 0) (arun_abs hN hm (hS 0) n))
end exec
end Go.Am
end
