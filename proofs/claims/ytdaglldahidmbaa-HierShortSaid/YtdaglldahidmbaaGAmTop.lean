/-
  Package hier: each of its laws for every argument; no conditions. The last text states which.
-/
import Derived.Test.YtdaglldahidmbaaGAmEq
import Derived.ChangeSame
set_option linter.unusedVariables false
set_option linter.unusedSimpArgs false
noncomputable section
namespace Go.Am
open Go
variable{P:Program}{GL:List Nat}{B:Bd}
def zeroMem:aA:=⟨.nil,0,[],[]⟩
def noEmb:dH:=fun _=>none
theorem tS(id:Nat):zeroMem.getA id=none:=by
 cases h:zeroMem.getA id with
 |none=>rfl
 |some b=>exact absurd (bM.1 h).1 (Nat.not_lt_zero _)
theorem gV.zero{w:World}(hB: ∀k,w.heap.size<=k->B.ok k)(a0:B.rs= []):gV P [] B noEmb zeroMem w:=
 ⟨fun id b h=>absurd ((tS id).symm.trans h) (by simp),fun a _ _ _ _ _ _ h=>absurd ((tS a).symm.trans h) (by simp),fun g h=>absurd h (by simp),hB,fun id b h=>absurd ((tS id).symm.trans h) (by simp),fun x hx=>by rw[a0] at hx;cases hx⟩
structure Hg(w w':World):Prop where
 os:w'.os=w.os
 output:w'.output=w.output
 size:w.heap.size<=w'.heap.size
 block: ∀k,k<w.heap.size->w'.heap[k]?=w.heap[k]?
theorem Hg.keptBut{w w':World}(h:Hg w w')(may:MemPlace->Prop):w.keptBut w' may:=by
 refine⟨h.os,h.output,fun i hi=> ?_⟩
 rw[h.block i hi]
 cases he:w.heap[i]? with
 |none=>rfl
 |some o=>cases o<;>simp
theorem Hg.frozen{w w':World}(h:Hg w w')(a:Addr)(ha:a.block<w.heap.size):w'.frozen? a=w.frozen? a:=by
 unfold World.frozen?
 rw[h.block _ ha]
theorem gV.grow{φ:dH}{M:aA}{w w':World}(h:gV P GL B φ M w)(hs:w.heap.size<=w'.heap.size)(hb: ∀k,k<w.heap.size->w'.heap[k]?=w.heap[k]?):gV P GL B φ M w':=by
 refine⟨fun id b hi=> ?_,h.sepA,h.glob,fun k hk=>h.size k (Nat.le_trans hs hk),h.idsA,fun x hx=>(h.rnd x hx).step (dH.le_refl _) (hb _ (h.rnd x hx).lt)⟩
 obtain⟨e,he,hr⟩:=h.blkA id b hi
 exact⟨e,he,hr.keep (dH.le_refl _) (hb _ hr.lt)⟩
theorem Nh{SP:dG}(hN:dX P)(hm:P.follows .mixedOrders=true){n:Nat}{f:FuncId}{args:List Value}{v:Value}{M':aA}{w:World}(hS:cP P [] w.heap.size SP)
  (h:arun P [] SP n f args zeroMem=some (v,M')) (ha:dD args=true) (hv:flat v=true):
  Calls P f args.toArray w fun e w'=>e= .returned v/\Hg w w'/\w'.tape=w.tape:=by
 have hc:=rK hN hm hS n h (gV.zero (fun k hk=>Xd hk) rfl) (fun _ _ _=>rfl) args.toArray (bZ.refl_flat _ _ ha)
 refine hc.mono fun e w' ⟨L,φ',v',he,hlog,hp,hv'⟩=> ?_
 rw[hv'.of_flat hv] at he
 refine⟨he,⟨hp.fr.os,hp.fr.output,hp.fr.size,fun k hk=> ?_⟩,hp.fr.tape⟩
 rcases hp.fr.block k hk with h1|⟨_,t,_,e0,h2,_⟩
 ·exact h1
 ·cases h2
structure dC(P:Program)(GL:List Nat)(B:Bd)(f:FuncId)(g:List Value->aA->Option (Value×aA)):Prop where
 abs: ∀args M v M',g args M=some (v,M')-> ∃L,lL M M' L
 run: ∀args M v M',g args M=some (v,M')-> ∀φ w,gV P GL B φ M w->jE φ M M'-> ∀args':Array Value,bZ φ args args'.toList->
  Calls P f args' w fun e w'=> ∃L φ' v',e= .returned v'/\M'.log=L++M.log/\Post P GL B φ φ' M M' L w w'/\bA φ' v v'
def Eh:List (FuncId×(List Value->aA->Option (Value×aA)))->FuncId->Option (List Value->aA->Option (Value×aA))
 | [],_=>none
 |(k,g)::l,f=>bif Nat.beq f k then some g else Eh l f
theorem pH: ∀{l:List (FuncId×(List Value->aA->Option (Value×aA)))} {f:FuncId} {g},Eh l f=some g->(f,g)∈l
 | [],f,g,h=>by cases h
 |(k,g')::l,f,g,h=>by
  unfold Eh at h
  cases hb:Nat.beq f k<;>simp only [hb,cond_true,cond_false] at h
  ·exact List.mem_cons_of_mem _ (pH h)
  ·have:f=k:=Nat.eq_of_beq_eq_true hb
   cases h;subst this
   exact List.mem_cons_self ..
def specsG(l:List (FuncId×(List Value->aA->Option (Value×aA)))):FuncId->Option (List Value->aA->Option (Value×aA)):=fun f=>bif Nat.blt f YB then Eh l f else none
theorem rD{l:List (FuncId×(List Value->aA->Option (Value×aA)))}{f:FuncId}{g}(h:specsG l f=some g):Eh l f=some g/\f<YB:=by
 unfold specsG at h
 cases hb:Nat.blt f YB<;>simp only [hb,cond_true,cond_false] at h
 ·cases h
 ·exact⟨h,Nat.le_of_ble_eq_true hb⟩
theorem sL.of{φ:dH}{f:FuncId}{args:Array Value}{w:World}{R:Ending->World->Prop}(hf:f<YB)(h:Calls P f args w R):sL P φ f args w R:=
 ⟨fun _=>h,fun r e h1 _=>absurd hf (by rw[h1];exact Nat.not_lt.2 (Nat.le_add_right _ _))⟩
def specs(l:List (FuncId×(List Value->aA->Option (Value×aA)))):dG:=⟨specsG l,fun _=>none⟩
theorem Um{l:List (FuncId×(List Value->aA->Option (Value×aA)))}(h: ∀p∈l,dC P GL B p.1 p.2):cP P GL B (specs l):=
 ⟨fun _ _ hf=>(h _ (pH (rD hf).1)).abs,fun _ _ h=>(by cases h),fun _ _ h=>(by cases h),fun _ _ hf args M v M' hg φ w hR hG args' ha=> .of (rD hf).2 ((h _ (pH (rD hf).1)).run args M v M' hg φ w hR hG args' ha)⟩
structure wO(P:Program)(GL:List Nat)(B:Bd)(id:Nat)(g:Code->St->Option (cM×St)):Prop where
 abs: ∀b s e s',g b s=some (e,s')-> ∃L,lL s.M s'.M L
 run: ∀b s e s',g b s=some (e,s')->sO P GL B s s' e fun Q a w=>(Code.block id b).wp P Q a w
def uP:List (Nat×(Code->St->Option (cM×St)))->Nat->Option (Code->St->Option (cM×St))
 | [],_=>none
 |(k,g)::l,f=>bif Nat.beq f k then some g else uP l f
theorem yM: ∀{l:List (Nat×(Code->St->Option (cM×St)))} {f:Nat} {g},uP l f=some g->(f,g)∈l
 | [],f,g,h=>by cases h
 |(k,g')::l,f,g,h=>by
  unfold uP at h
  cases hb:Nat.beq f k<;>simp only [hb,cond_true,cond_false] at h
  ·exact List.mem_cons_of_mem _ (yM h)
  ·have:f=k:=Nat.eq_of_beq_eq_true hb
   cases h;subst this
   exact List.mem_cons_self ..
def tR(l:List (FuncId×(List Value->aA->Option (Value×aA))))(k:List (Nat×(Code->St->Option (cM×St)))):dG:=⟨specsG l,uP k⟩
theorem uF{l:List (FuncId×(List Value->aA->Option (Value×aA)))}{k:List (Nat×(Code->St->Option (cM×St)))}(h: ∀p∈l,dC P GL B p.1 p.2)(hk: ∀p∈k,wO P GL B p.1 p.2):cP P GL B (tR l k):=
 ⟨fun _ _ hf=>(h _ (pH (rD hf).1)).abs,fun _ _ h=>(hk _ (yM h)).abs,fun _ _ h=>(hk _ (yM h)).run,fun _ _ hf args M v M' hg φ w hR hG args' ha=> .of (rD hf).2 ((h _ (pH (rD hf).1)).run args M v M' hg φ w hR hG args' ha)⟩
theorem dC.arun(hN:dX P)(hm:P.follows .mixedOrders=true){SP:dG}(hS:cP P GL B SP)(n:Nat)(f:FuncId):dC P GL B f (Go.Am.arun P GL SP n f):=
 ⟨fun args M v M' h=>wW hN hm hS n f args M v M' h,fun args M v M' h φ w hR hG args' ha=>rK hN hm hS n h hR hG args' ha⟩
def ansNone(v:Value)(args:List Value)(M:aA):Option (Value×aA):=
 match args with
 | []=>some (v,M)
 |_=>none
theorem dC.ansNone(hN:dX P)(hm:P.follows .mixedOrders=true){SP:dG}(hS: ∀B,cP P [] B SP){n:Nat}{f:FuncId}{v:Value}{M1:aA}
  (h:Go.Am.arun P [] SP n f [] zeroMem=some (v,M1)) (hv:flat v=true):dC P GL B f (Go.Am.ansNone v):=by
 refine⟨fun args M u M' hu=> ?_,fun args M u M' hu φ w hR _ args' ha=> ?_⟩
 ·unfold Go.Am.ansNone at hu
  split at hu
  ·cases hu
   exact⟨[],rfl,Nat.le_refl _,rfl,fun _ _ _=>rfl,fun t ht=>by cases ht⟩
  ·cases hu
 ·unfold Go.Am.ansNone at hu
  split at hu
  ·cases hu
   have e:args'= #[]:=by
    have:=bZ.length ha
    cases args'
    simp_all
   subst e
   refine(Nh hN hm (hS _) h rfl hv (w:=w)).mono fun e w' ⟨he,hk,ht⟩=>⟨[],φ,_,he,rfl,⟨fun _ _=>rfl,Nat.le_refl _,hR.grow hk.size hk.block,⟨hk.os,ht,hk.output,hk.size,fun k hk'=> .inl (hk.block k hk')⟩,fun id e h1 h2=>by omega,fun t ht=>by cases ht⟩,bA.refl_flat _ _ hv⟩
  ·cases hu
open Go.ChangeShapes Go.WideShapes in
theorem It{H:Type}{enc:TypeId×Value->H}{f:Func}{s:ChangeSpec}{apart fresh a1 a4:Bool}{W W':World}{args:Array Value}{v:Value}{ds gs:List (DataW H)}{a0 pa pv:List MemPlace}
  (hW:DataW.Whole enc P f.params.toList s.vars apart W args.toList ds gs a0)
  (a6: ∀(b:Nat) (sp:Nat->Bool) (hd:Bool),DataW.TrodAll enc P W' b sp hd f.resultTypes.toList (v.resultList f.resultTypes.size) (s.fn H (ds++gs)).results [])
  (a2: ∀sp:Nat->Bool,(∀p∈a0,sp p.block=true)->DataW.TrodAll enc P W' 0 sp true f.params.toList args.toList (s.fn H (ds++gs)).args pa)
  (a3: ∀sp:Nat->Bool,(∀p∈a0,sp p.block=true)->DataW.TrodVars enc P W' sp s.vars (s.fn H (ds++gs)).vars pv)
  (a7:a0=pa++pv) (hk:Hg W W')
  (b0: ∀(j:Nat) (t:TypeId) (r:Value),f.resultTypes[j]?=some t->(v.resultList f.resultTypes.size)[j]?=some r->Value.okWide P W' .any 0 t r):
  s.post enc P f apart fresh a1 a4 W args v W':=by
 have a8: ∀p∈a0,p.block<W.heap.size:=fun p hp=>hW.lt p hp
 have a5: ∀p∈a0,(fun b=>decide (b<W.heap.size)) p.block=true:=fun p hp=>by simpa using a8 p hp
 refine⟨ds,gs,a0,[],pa,pv,hW,a6 _ _ _,a2 _ a5,a3 _ a5,World.keptBut_mono (fun p hp=>⟨hp,?_⟩) (hk.keptBut (·∈a0)),fun _=> ?_⟩
 ·rw[a7,List.mem_append] at hp
  exact Or.inr hp
 ·obtain⟨_,_,_,_,_,hz,hn⟩:=hW
  refine⟨b0,_,_,([]++pa)++pv,⟨[]++pa,pv,trodAll_append (a2 _ (fun _ _=>rfl)) (a6 _ _ _),a3 _ (fun _ _=>rfl),rfl,?_,?_⟩,?_⟩
  ·intro b off hp
   have a9:MemPlace.cell b off∈a0:=by rw[a7];simpa using hp
   rw[hk.frozen _ (a8 _ a9)]
   exact hz b off a9
  ·intro ha
   have:=hn ha
   rw[a7] at this
   simpa using this
  ·intro p hp _
   rw[a7]
   simpa using hp
end Go.Am
end

noncomputable section
namespace Go.Am
open Go
variable{P:Program}{GL:List Nat}{B:Bd}{callF:cR}
def Pg(o:Oper):Bool:=
 match o.op with
 | .move _| .assign _| .pick _ _ _| .nilCheck _| .binOp _ _ _ _ _| .unOp _ _ _| .fieldAddr _ _ _| .field _ _ _| .indexAddr _ _ _| .index _ _ _| .extract _ _| .load _ _| .build _ _| .makeInterface _ _=>true
 | .call c=>(match c.callee with| .builtin .len=>true|_=>false)
 |_=>false
theorem Qy{o:Oper}{T:Tr Value}{M M':aA}{k:Nat}{r:AR}(hq:Pg o=true)(h:jO P GL callF o T M=some (k,r,M')):M'=M/\k<=1:=by
 obtain⟨dst,op,type,pos,after,guard⟩:=o
 unfold jO at h
 split at h
 ·simp at h
  obtain⟨rfl,_,rfl⟩:=h
  exact⟨rfl,by omega⟩
 ·rename_i h0
  clear h0
  replace h:fD P GL callF {dst:=dst,op:=op,type:=type,pos:=pos,after:=after,guard:=guard} T M=some (k,r,M'):=by
   split at h
   ·cases h
   ·exact h
  cases op<;>simp [Pg] at hq<;>simp only [fD] at h<;>try (cases h;done)
  case load t x=>
   split at h<;>try (simp at h;done)
   split at h<;>try (simp at h;done)
   simp at h
   obtain⟨rfl,_,rfl⟩:=h
   exact⟨rfl,Nat.le_refl _⟩
  case call c=>
   obtain⟨callee,args,argTypes⟩:=c
   cases callee with
   |builtin b=>cases b<;>simp at hq<;>simp at h
   |value f=>simp at hq
   |invoke x n=>simp at hq
end Go.Am
end
