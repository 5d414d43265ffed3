/-
  Package hier: each of its laws for every argument; no conditions. The last text states which.
-/
import Derived.Test.YtdaglldahidmbaaGAmEq
import Derived.ChangeSame
set_option linter.unusedVariables false
set_option linter.unusedSimpArgs false
noncomputable section
namespace Go.Am
open Go
variable{P:Program}{GL:List Nat}{B:Bd}
def zeroMem:aA:=⟨.nil,0,[],[]⟩
def noEmb:dC:=fun _=>none
theorem sN(id:Nat):zeroMem.getA id=none:=by
 cases h:zeroMem.getA id with
 |none=>rfl
 |some b=>exact absurd (bK.1 h).1 (Nat.not_lt_zero _)
theorem gI.zero{w:World}(hB: ∀k,w.heap.size<=k->B.ok k)(hrs:B.rs= []):gI P [] B noEmb zeroMem w:=
 ⟨fun id b h=>absurd ((sN id).symm.trans h) (by simp),fun a _ _ _ _ _ _ h=>absurd ((sN a).symm.trans h) (by simp),fun g h=>absurd h (by simp),hB,fun id b h=>absurd ((sN id).symm.trans h) (by simp),fun x hx=>by rw[hrs] at hx;cases hx⟩
structure Fl(w w':World):Prop where
 os:w'.os=w.os
 output:w'.output=w.output
 size:w.heap.size<=w'.heap.size
 block: ∀k,k<w.heap.size->w'.heap[k]?=w.heap[k]?
theorem Fl.keptBut{w w':World}(h:Fl w w')(may:MemPlace->Prop):w.keptBut w' may:=by
 refine⟨h.os,h.output,fun i hi=> ?_⟩
 rw[h.block i hi]
 cases he:w.heap[i]? with
 |none=>rfl
 |some o=>cases o<;>simp
theorem Fl.frozen{w w':World}(h:Fl w w')(a:Addr)(ha:a.block<w.heap.size):w'.frozen? a=w.frozen? a:=by
 unfold World.frozen?
 rw[h.block _ ha]
theorem gI.grow{φ:dC}{M:aA}{w w':World}(h:gI P GL B φ M w)(hs:w.heap.size<=w'.heap.size)(hb: ∀k,k<w.heap.size->w'.heap[k]?=w.heap[k]?):gI P GL B φ M w':=by
 refine⟨fun id b hi=> ?_,h.sepA,h.glob,fun k hk=>h.size k (Nat.le_trans hs hk),h.idsA,fun x hx=>(h.rnd x hx).step (dC.le_refl _) (hb _ (h.rnd x hx).lt)⟩
 obtain⟨e,he,hr⟩:=h.blkA id b hi
 exact⟨e,he,hr.keep (dC.le_refl _) (hb _ hr.lt)⟩
theorem Kv{SP:cZ}(hN:dU P)(hm:P.follows .mixedOrders=true){n:Nat}{f:FuncId}{args:List Value}{v:Value}{M':aA}{w:World}(hS:cJ P [] w.heap.size SP)
  (h:arun P [] SP n f args zeroMem=some (v,M')) (ha:cX args=true) (hv:flat v=true):
  Calls P f args.toArray w fun e w'=>e= .returned v/\Fl w w'/\w'.tape=w.tape:=by
 have hc:=qO hN hm hS n h (gI.zero (fun k hk=>Tw hk) rfl) (fun _ _ _=>rfl) args.toArray (bU.refl_flat _ _ ha)
 refine hc.mono fun e w' ⟨L,φ',v',he,hlog,hp,hv'⟩=> ?_
 rw[hv'.of_flat hv] at he
 refine⟨he,⟨hp.fr.os,hp.fr.output,hp.fr.size,fun k hk=> ?_⟩,hp.fr.tape⟩
 rcases hp.fr.block k hk with h1|⟨_,t,_,e0,h2,_⟩
 ·exact h1
 ·cases h2
structure cV(P:Program)(GL:List Nat)(B:Bd)(f:FuncId)(g:List Value->aA->Option (Value×aA)):Prop where
 abs: ∀args M v M',g args M=some (v,M')-> ∃L,kX M M' L
 run: ∀args M v M',g args M=some (v,M')-> ∀φ w,gI P GL B φ M w->iX φ M M'-> ∀args':Array Value,bU φ args args'.toList->
  Calls P f args' w fun e w'=> ∃L φ' v',e= .returned v'/\M'.log=L++M.log/\Post P GL B φ φ' M M' L w w'/\bA φ' v v'
def Cs:List (FuncId×(List Value->aA->Option (Value×aA)))->FuncId->Option (List Value->aA->Option (Value×aA))
 | [],_=>none
 |(k,g)::l,f=>bif Nat.beq f k then some g else Cs l f
theorem oI: ∀{l:List (FuncId×(List Value->aA->Option (Value×aA)))} {f:FuncId} {g},Cs l f=some g->(f,g)∈l
 | [],f,g,h=>by cases h
 |(k,g')::l,f,g,h=>by
  unfold Cs at h
  cases hb:Nat.beq f k<;>simp only [hb,cond_true,cond_false] at h
  ·exact List.mem_cons_of_mem _ (oI h)
  ·have:f=k:=Nat.eq_of_beq_eq_true hb
   cases h;subst this
   exact List.mem_cons_self ..
def specsG(l:List (FuncId×(List Value->aA->Option (Value×aA)))):FuncId->Option (List Value->aA->Option (Value×aA)):=fun f=>bif Nat.blt f YB then Cs l f else none
theorem qB{l:List (FuncId×(List Value->aA->Option (Value×aA)))}{f:FuncId}{g}(h:specsG l f=some g):Cs l f=some g/\f<YB:=by
 unfold specsG at h
 cases hb:Nat.blt f YB<;>simp only [hb,cond_true,cond_false] at h
 ·cases h
 ·exact⟨h,Nat.le_of_ble_eq_true hb⟩
theorem rK.of{φ:dC}{f:FuncId}{args:Array Value}{w:World}{R:Ending->World->Prop}(hf:f<YB)(h:Calls P f args w R):rK P φ f args w R:=
 ⟨fun _=>h,fun r e h1 _=>absurd hf (by rw[h1];exact Nat.not_lt.2 (Nat.le_add_right _ _))⟩
def specs(l:List (FuncId×(List Value->aA->Option (Value×aA)))):cZ:=⟨specsG l,fun _=>none⟩
theorem Ro{l:List (FuncId×(List Value->aA->Option (Value×aA)))}(h: ∀p∈l,cV P GL B p.1 p.2):cJ P GL B (specs l):=
 ⟨fun _ _ hf=>(h _ (oI (qB hf).1)).abs,fun _ _ h=>(by cases h),fun _ _ h=>(by cases h),fun _ _ hf args M v M' hg φ w hR hG args' ha=> .of (qB hf).2 ((h _ (oI (qB hf).1)).run args M v M' hg φ w hR hG args' ha)⟩
structure vI(P:Program)(GL:List Nat)(B:Bd)(id:Nat)(g:Code->St->Option (cH×St)):Prop where
 abs: ∀b s e s',g b s=some (e,s')-> ∃L,kX s.M s'.M L
 run: ∀b s e s',g b s=some (e,s')->rN P GL B s s' e fun Q a w=>(Code.block id b).wp P Q a w
def tP:List (Nat×(Code->St->Option (cH×St)))->Nat->Option (Code->St->Option (cH×St))
 | [],_=>none
 |(k,g)::l,f=>bif Nat.beq f k then some g else tP l f
theorem xD: ∀{l:List (Nat×(Code->St->Option (cH×St)))} {f:Nat} {g},tP l f=some g->(f,g)∈l
 | [],f,g,h=>by cases h
 |(k,g')::l,f,g,h=>by
  unfold tP at h
  cases hb:Nat.beq f k<;>simp only [hb,cond_true,cond_false] at h
  ·exact List.mem_cons_of_mem _ (xD h)
  ·have:f=k:=Nat.eq_of_beq_eq_true hb
   cases h;subst this
   exact List.mem_cons_self ..
def sM(l:List (FuncId×(List Value->aA->Option (Value×aA))))(k:List (Nat×(Code->St->Option (cH×St)))):cZ:=⟨specsG l,tP k⟩
theorem tD{l:List (FuncId×(List Value->aA->Option (Value×aA)))}{k:List (Nat×(Code->St->Option (cH×St)))}(h: ∀p∈l,cV P GL B p.1 p.2)(hk: ∀p∈k,vI P GL B p.1 p.2):cJ P GL B (sM l k):=
 ⟨fun _ _ hf=>(h _ (oI (qB hf).1)).abs,fun _ _ h=>(hk _ (xD h)).abs,fun _ _ h=>(hk _ (xD h)).run,fun _ _ hf args M v M' hg φ w hR hG args' ha=> .of (qB hf).2 ((h _ (oI (qB hf).1)).run args M v M' hg φ w hR hG args' ha)⟩
theorem cV.arun(hN:dU P)(hm:P.follows .mixedOrders=true){SP:cZ}(hS:cJ P GL B SP)(n:Nat)(f:FuncId):cV P GL B f (Go.Am.arun P GL SP n f):=
 ⟨fun args M v M' h=>vP hN hm hS n f args M v M' h,fun args M v M' h φ w hR hG args' ha=>qO hN hm hS n h hR hG args' ha⟩
def ansNone(v:Value)(args:List Value)(M:aA):Option (Value×aA):=
 match args with
 | []=>some (v,M)
 |_=>none
theorem cV.ansNone(hN:dU P)(hm:P.follows .mixedOrders=true){SP:cZ}(hS: ∀B,cJ P [] B SP){n:Nat}{f:FuncId}{v:Value}{M1:aA}
  (h:Go.Am.arun P [] SP n f [] zeroMem=some (v,M1)) (hv:flat v=true):cV P GL B f (Go.Am.ansNone v):=by
 refine⟨fun args M u M' hu=> ?_,fun args M u M' hu φ w hR _ args' ha=> ?_⟩
 ·unfold Go.Am.ansNone at hu
  split at hu
  ·cases hu
   exact⟨[],rfl,Nat.le_refl _,rfl,fun _ _ _=>rfl,fun t ht=>by cases ht⟩
  ·cases hu
 ·unfold Go.Am.ansNone at hu
  split at hu
  ·cases hu
   have e:args'= #[]:=by
    have:=bU.length ha
    cases args'
    simp_all
   subst e
   refine(Kv hN hm (hS _) h rfl hv (w:=w)).mono fun e w' ⟨he,hk,ht⟩=>⟨[],φ,_,he,rfl,⟨fun _ _=>rfl,Nat.le_refl _,hR.grow hk.size hk.block,⟨hk.os,ht,hk.output,hk.size,fun k hk'=> .inl (hk.block k hk')⟩,fun id e h1 h2=>by omega,fun t ht=>by cases ht⟩,bA.refl_flat _ _ hv⟩
  ·cases hu
open Go.ChangeShapes Go.WideShapes in
theorem Gv{H:Type}{enc:TypeId×Value->H}{f:Func}{s:ChangeSpec}{apart fresh handsOn again:Bool}{W W':World}{args:Array Value}{v:Value}{ds gs:List (DataW H)}{before pa pv:List MemPlace}
  (hW:DataW.Whole enc P f.params.toList s.vars apart W args.toList ds gs before)
  (hres: ∀(b:Nat) (sp:Nat->Bool) (hd:Bool),DataW.TrodAll enc P W' b sp hd f.resultTypes.toList (v.resultList f.resultTypes.size) (s.fn H (ds++gs)).results [])
  (hargs: ∀sp:Nat->Bool,(∀p∈before,sp p.block=true)->DataW.TrodAll enc P W' 0 sp true f.params.toList args.toList (s.fn H (ds++gs)).args pa)
  (hvars: ∀sp:Nat->Bool,(∀p∈before,sp p.block=true)->DataW.TrodVars enc P W' sp s.vars (s.fn H (ds++gs)).vars pv)
  (hps:before=pa++pv) (hk:Fl W W')
  (hok: ∀(j:Nat) (t:TypeId) (r:Value),f.resultTypes[j]?=some t->(v.resultList f.resultTypes.size)[j]?=some r->Value.okWide P W' .any 0 t r):
  s.post enc P f apart fresh handsOn again W args v W':=by
 have hlt: ∀p∈before,p.block<W.heap.size:=fun p hp=>hW.lt p hp
 have hold: ∀p∈before,(fun b=>decide (b<W.heap.size)) p.block=true:=fun p hp=>by simpa using hlt p hp
 refine⟨ds,gs,before,[],pa,pv,hW,hres _ _ _,hargs _ hold,hvars _ hold,World.keptBut_mono (fun p hp=>⟨hp,?_⟩) (hk.keptBut (·∈before)),fun _=> ?_⟩
 ·rw[hps,List.mem_append] at hp
  exact Or.inr hp
 ·obtain⟨_,_,_,_,_,hz,hn⟩:=hW
  refine⟨hok,_,_,([]++pa)++pv,⟨[]++pa,pv,trodAll_append (hargs _ (fun _ _=>rfl)) (hres _ _ _),hvars _ (fun _ _=>rfl),rfl,?_,?_⟩,?_⟩
  ·intro b off hp
   have hp':MemPlace.cell b off∈before:=by rw[hps];simpa using hp
   rw[hk.frozen _ (hlt _ hp')]
   exact hz b off hp'
  ·intro ha
   have:=hn ha
   rw[hps] at this
   simpa using this
  ·intro p hp _
   rw[hps]
   simpa using hp
end Go.Am
end

noncomputable section
namespace Go.Am
open Go
variable{P:Program}{GL:List Nat}{B:Bd}{callF:cK}
def Mr(o:Oper):Bool:=
 match o.op with
 | .move _| .assign _| .pick _ _ _| .nilCheck _| .binOp _ _ _ _ _| .unOp _ _ _| .fieldAddr _ _ _| .field _ _ _| .indexAddr _ _ _| .index _ _ _| .extract _ _| .load _ _| .build _ _| .makeInterface _ _=>true
 | .call c=>(match c.callee with| .builtin .len=>true|_=>false)
 |_=>false
theorem Of{o:Oper}{T:Tr Value}{M M':aA}{k:Nat}{r:AR}(hq:Mr o=true)(h:jG P GL callF o T M=some (k,r,M')):M'=M/\k<=1:=by
 obtain⟨dst,op,type,pos,after,guard⟩:=o
 unfold jG at h
 split at h
 ·simp at h
  obtain⟨rfl,_,rfl⟩:=h
  exact⟨rfl,by omega⟩
 ·rename_i h0
  clear h0
  replace h:eU P GL callF {dst:=dst,op:=op,type:=type,pos:=pos,after:=after,guard:=guard} T M=some (k,r,M'):=by
   split at h
   ·cases h
   ·exact h
  cases op<;>simp [Mr] at hq<;>simp only [eU] at h<;>try (cases h;done)
  case load t x=>
   split at h<;>try (simp at h;done)
   split at h<;>try (simp at h;done)
   simp at h
   obtain⟨rfl,_,rfl⟩:=h
   exact⟨rfl,Nat.le_refl _⟩
  case call c=>
   obtain⟨callee,args,argTypes⟩:=c
   cases callee with
   |builtin b=>cases b<;>simp at hq<;>simp at h
   |value f=>simp at hq
   |invoke x n=>simp at hq
end Go.Am
end
