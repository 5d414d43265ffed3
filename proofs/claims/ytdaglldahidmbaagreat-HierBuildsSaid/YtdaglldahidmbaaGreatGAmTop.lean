/-
  Package hier: each of its laws for every argument; no conditions. The last text states which.
-/
import Derived.Test.YtdaglldahidmbaaGreatGAmEq
import Derived.ChangeSame
set_option linter.unusedVariables false
set_option linter.unusedSimpArgs false
noncomputable section
namespace Go.Am
open Go
variable{P:Program}{GL:List Nat}{B:Bd}
def zeroMem:aB:=⟨.nil,0,[],[]⟩
def noEmb:dX:=fun _=>none
theorem uH(id:Nat):zeroMem.getA id=none:=by
 cases h:zeroMem.getA id with
 |none=>rfl
 |some b=>exact absurd (bN.1 h).1 (Nat.not_lt_zero _)
theorem hI.zero{w:World}(hB:∀k,w.heap.size<=k->B.ok k)(a0:B.rs=[]):hI P [] B noEmb zeroMem w:=
 ⟨fun id b h=>absurd ((uH id).symm.trans h) (by simp),fun a _ _ _ _ _ _ h=>absurd ((uH a).symm.trans h) (by simp),fun g h=>absurd h (by simp),hB,fun id b h=>absurd ((uH id).symm.trans h) (by simp),fun x hx=>by rw[a0] at hx;cases hx⟩
structure Hc(w w':World):Prop where
 os:w'.os=w.os
 output:w'.output=w.output
 size:w.heap.size<=w'.heap.size
 block:∀k,k<w.heap.size->w'.heap[k]?=w.heap[k]?
theorem Hc.keptBut{w w':World}(h:Hc w w')(may:MemPlace->Prop):w.keptBut w' may:=by
 refine⟨h.os,h.output,fun i hi=>?_⟩;rw[h.block i hi];cases he:w.heap[i]? with
 |none=>rfl
 |some o=>cases o<;>simp
theorem Hc.frozen{w w':World}(h:Hc w w')(a:Addr)(ha:a.block<w.heap.size):w'.frozen? a=w.frozen? a:=by unfold World.frozen?;rw[h.block _ ha]
theorem hI.grow{φ:dX}{M:aB}{w w':World}(h:hI P GL B φ M w)(hs:w.heap.size<=w'.heap.size)(hb:∀k,k<w.heap.size->w'.heap[k]?=w.heap[k]?):hI P GL B φ M w':=by refine⟨fun id b hi=>?_,h.sepA,h.glob,fun k hk=>h.size k (Nat.le_trans hs hk),h.idsA,fun x hx=>(h.rnd x hx).step (dX.le_refl _) (hb _ (h.rnd x hx).lt)⟩;obtain⟨e,he,hr⟩:=h.blkA id b hi;exact⟨e,he,hr.keep (dX.le_refl _) (hb _ hr.lt)⟩
theorem Nb{SP:dC}(hN:eJ P)(hm:P.follows .mixedOrders=true){n:Nat}{f:FuncId}{args:List Value}{v:Value}{M':aB}{w:World}(hS:cS P [] w.heap.size SP)
  (h:arun P [] SP n f args zeroMem=some (v,M')) (ha:dU args=true) (hv:flat v=true):
  Calls P f args.toArray w fun e w'=>e= .returned v/\Hc w w'/\w'.tape=w.tape:=by
 have hc:=rY hN hm hS n h (hI.zero (fun k hk=>Xe hk) rfl) (fun _ _ _=>rfl) args.toArray (cE.refl_flat _ _ ha)
 refine hc.mono fun e w' ⟨L,φ',v',he,hlog,hp,hv'⟩=>?_
 rw[hv'.of_flat hv] at he
 refine⟨he,⟨hp.fr.os,hp.fr.output,hp.fr.size,fun k hk=>?_⟩,hp.fr.tape⟩
 rcases hp.fr.block k hk with h1|⟨_,t,_,e0,h2,_⟩
 ·exact h1
 ·cases h2
structure dR(P:Program)(GL:List Nat)(B:Bd)(f:FuncId)(g:List Value->aB->Option (Value×aB)):Prop where
 abs:∀args M v M',g args M=some (v,M')->∃L,mA M M' L
 run:∀args M v M',g args M=some (v,M')->∀φ w,hI P GL B φ M w->jP φ M M'->∀args':Array Value,cE φ args args'.toList->
  Calls P f args' w fun e w'=>∃L φ' v',e= .returned v'/\M'.log=L++M.log/\Post P GL B φ φ' M M' L w w'/\bH φ' v v'
def Eg:List (FuncId×(List Value->aB->Option (Value×aB)))->FuncId->Option (List Value->aB->Option (Value×aB))
 | [],_=>none
 |(k,g)::l,f=>bif Nat.beq f k then some g else Eg l f
theorem pO:∀{l:List (FuncId×(List Value->aB->Option (Value×aB)))} {f:FuncId} {g},Eg l f=some g->(f,g)∈l
 | [],f,g,h=>by cases h
 |(k,g')::l,f,g,h=>by
  unfold Eg at h;cases hb:Nat.beq f k<;>simp only [hb,cond_true,cond_false] at h
  ·exact List.mem_cons_of_mem _ (pO h)
  ·have:f=k:=xBa hb;cases h;subst this;exact List.mem_cons_self ..
def specsG(l:List (FuncId×(List Value->aB->Option (Value×aB)))):FuncId->Option (List Value->aB->Option (Value×aB)):=fun f=>bif Nat.blt f YB then Eg l f else none
theorem rP{l:List (FuncId×(List Value->aB->Option (Value×aB)))}{f:FuncId}{g}(h:specsG l f=some g):Eg l f=some g/\f<YB:=by
 unfold specsG at h;cases hb:Nat.blt f YB<;>simp only [hb,cond_true,cond_false] at h
 ·cases h
 ·exact⟨h,xAd hb⟩
theorem sX.of{φ:dX}{f:FuncId}{args:Array Value}{w:World}{R:Ending->World->Prop}(hf:f<YB)(h:Calls P f args w R):sX P φ f args w R:=
 ⟨fun _=>h,fun r e h1 _=>absurd hf (by rw[h1];exact Nat.not_lt.2 (Nat.le_add_right _ _))⟩
def specs(l:List (FuncId×(List Value->aB->Option (Value×aB)))):dC:=⟨specsG l,fun _=>none⟩
theorem Uu{l:List (FuncId×(List Value->aB->Option (Value×aB)))}(h:∀p∈l,dR P GL B p.1 p.2):cS P GL B (specs l):=
 ⟨fun _ _ hf=>(h _ (pO (rP hf).1)).abs,fun _ _ h=>(by cases h),fun _ _ h=>(by cases h),fun _ _ hf args M v M' hg φ w hR hG args' ha=> .of (rP hf).2 ((h _ (pO (rP hf).1)).run args M v M' hg φ w hR hG args' ha)⟩
structure sO(P:Program)(GL:List Nat)(B:Bd)(id:Nat)(g:Code->St->Option (cT×St)):Prop where
 abs:∀b s e s',g b s=some (e,s')->∃L,mA s.M s'.M L
 run:∀b s e s',g b s=some (e,s')->tD P GL B s s' e fun Q a w=>(Code.block id b).wp P Q a w
def qB:List (Nat×(Code->St->Option (cT×St)))->Nat->Option (Code->St->Option (cT×St))
 | [],_=>none
 |(k,g)::l,f=>bif Nat.beq f k then some g else qB l f
theorem yS:∀{l:List (Nat×(Code->St->Option (cT×St)))} {f:Nat} {g},qB l f=some g->(f,g)∈l
 | [],f,g,h=>by cases h
 |(k,g')::l,f,g,h=>by
  unfold qB at h;cases hb:Nat.beq f k<;>simp only [hb,cond_true,cond_false] at h
  ·exact List.mem_cons_of_mem _ (yS h)
  ·have:f=k:=xBa hb;cases h;subst this;exact List.mem_cons_self ..
def uG(l:List (FuncId×(List Value->aB->Option (Value×aB))))(k:List (Nat×(Code->St->Option (cT×St)))):dC:=⟨specsG l,qB k⟩
theorem rO{l:List (FuncId×(List Value->aB->Option (Value×aB)))}{k:List (Nat×(Code->St->Option (cT×St)))}(h:∀p∈l,dR P GL B p.1 p.2)(hk:∀p∈k,sO P GL B p.1 p.2):cS P GL B (uG l k):=
 ⟨fun _ _ hf=>(h _ (pO (rP hf).1)).abs,fun _ _ h=>(hk _ (yS h)).abs,fun _ _ h=>(hk _ (yS h)).run,fun _ _ hf args M v M' hg φ w hR hG args' ha=> .of (rP hf).2 ((h _ (pO (rP hf).1)).run args M v M' hg φ w hR hG args' ha)⟩
theorem dR.arun(hN:eJ P)(hm:P.follows .mixedOrders=true){SP:dC}(hS:cS P GL B SP)(n:Nat)(f:FuncId):dR P GL B f (Go.Am.arun P GL SP n f):=
 ⟨fun args M v M' h=>xG hN hm hS n f args M v M' h,fun args M v M' h φ w hR hG args' ha=>rY hN hm hS n h hR hG args' ha⟩
def ansNone(v:Value)(args:List Value)(M:aB):Option (Value×aB):=
 match args with
 | []=>some (v,M)
 |_=>none
theorem dR.ansNone(hN:eJ P)(hm:P.follows .mixedOrders=true){SP:dC}(hS:∀B,cS P [] B SP){n:Nat}{f:FuncId}{v:Value}{M1:aB}
  (h:Go.Am.arun P [] SP n f [] zeroMem=some (v,M1)) (hv:flat v=true):dR P GL B f (Go.Am.ansNone v):=by
 refine⟨fun args M u M' hu=>?_,fun args M u M' hu φ w hR _ args' ha=>?_⟩
 ·unfold Go.Am.ansNone at hu;split at hu
  ·cases hu;exact⟨[],rfl,Nat.le_refl _,rfl,fun _ _ _=>rfl,fun t ht=>by cases ht⟩
  ·cases hu
 ·unfold Go.Am.ansNone at hu;split at hu
  ·cases hu;have e:args'= #[]:=by
    have:=cE.length ha;cases args';simp_all
   subst e;refine(Nb hN hm (hS _) h rfl hv (w:=w)).mono fun e w' ⟨he,hk,ht⟩=>⟨[],φ,_,he,rfl,⟨fun _ _=>rfl,Nat.le_refl _,hR.grow hk.size hk.block,⟨hk.os,ht,hk.output,hk.size,fun k hk'=> .inl (hk.block k hk')⟩,fun id e h1 h2=>by omega,fun t ht=>by cases ht⟩,bH.refl_flat _ _ hv⟩
  ·cases hu
open Go.ChangeShapes Go.WideShapes in
theorem Ip{H:Type}{enc:TypeId×Value->H}{f:Func}{s:ChangeSpec}{apart fresh a1 a4:Bool}{W W':World}{args:Array Value}{v:Value}{ds gs:List (DataW H)}{a0 pa pv:List MemPlace}
  (hW:DataW.Whole enc P f.params.toList s.vars apart W args.toList ds gs a0)
  (a6:∀(b:Nat) (sp:Nat->Bool) (hd:Bool),DataW.TrodAll enc P W' b sp hd f.resultTypes.toList (v.resultList f.resultTypes.size) (s.fn H (ds++gs)).results [])
  (a2:∀sp:Nat->Bool,(∀p∈a0,sp p.block=true)->DataW.TrodAll enc P W' 0 sp true f.params.toList args.toList (s.fn H (ds++gs)).args pa)
  (a3:∀sp:Nat->Bool,(∀p∈a0,sp p.block=true)->DataW.TrodVars enc P W' sp s.vars (s.fn H (ds++gs)).vars pv)
  (a7:a0=pa++pv) (hk:Hc W W')
  (b0:∀(j:Nat) (t:TypeId) (r:Value),f.resultTypes[j]?=some t->(v.resultList f.resultTypes.size)[j]?=some r->Value.okWide P W' .any 0 t r):
  s.post enc P f apart fresh a1 a4 W args v W':=by
 have a8:∀p∈a0,p.block<W.heap.size:=fun p hp=>hW.lt p hp
 have a5:∀p∈a0,(fun b=>decide (b<W.heap.size)) p.block=true:=fun p hp=>by simpa using a8 p hp
 refine⟨ds,gs,a0,[],pa,pv,hW,a6 _ _ _,a2 _ a5,a3 _ a5,World.keptBut_mono (fun p hp=>⟨hp,?_⟩) (hk.keptBut (·∈a0)),fun _=>?_⟩
 ·rw[a7,List.mem_append] at hp;exact Or.inr hp
 ·obtain⟨_,_,_,_,_,hz,hn⟩:=hW;refine⟨b0,_,_,([]++pa)++pv,⟨[]++pa,pv,trodAll_append (a2 _ (fun _ _=>rfl)) (a6 _ _ _),a3 _ (fun _ _=>rfl),rfl,?_,?_⟩,?_⟩
  ·intro b off hp;have a9:MemPlace.cell b off∈a0:=by rw[a7];simpa using hp
   rw[hk.frozen _ (a8 _ a9)];exact hz b off a9
  ·intro ha;have:=hn ha;rw[a7] at this;simpa using this
  ·intro p hp _;rw[a7];simpa using hp
end Go.Am
end

noncomputable section
namespace Go.Am
open Go
variable{P:Program}{GL:List Nat}{B:Bd}{callF:dD}
def Pf(o:Oper):Bool:=
 match o.op with
 | .move _| .assign _| .pick _ _ _| .nilCheck _| .binOp _ _ _ _ _| .unOp _ _ _| .fieldAddr _ _ _| .field _ _ _| .indexAddr _ _ _| .index _ _ _| .extract _ _| .load _ _| .build _ _| .makeInterface _ _=>true
 | .call c=>(match c.callee with| .builtin .len=>true|_=>false)
 |_=>false
theorem Qx{o:Oper}{T:Tr Value}{M M':aB}{k:Nat}{r:AR}(hq:Pf o=true)(h:jY P GL callF o T M=some (k,r,M')):M'=M/\k<=1:=by
 obtain⟨dst,op,type,pos,after,guard⟩:=o;unfold jY at h;split at h
 ·simp at h;obtain⟨rfl,_,rfl⟩:=h;exact⟨rfl,by omega⟩
 ·rename_i h0;clear h0;replace h:fM P GL callF {dst:=dst,op:=op,type:=type,pos:=pos,after:=after,guard:=guard} T M=some (k,r,M'):=by
   split at h
   ·cases h
   ·exact h
  cases op<;>simp [Pf] at hq<;>simp only [fM] at h<;>try (cases h;done)
  case load t x=>
   split at h<;>try (simp at h;done)
   split at h<;>try (simp at h;done)
   simp at h
   obtain⟨rfl,_,rfl⟩:=h
   exact⟨rfl,Nat.le_refl _⟩
  case call c=>
   obtain⟨callee,args,argTypes⟩:=c
   cases callee with
   |builtin b=>cases b<;>simp at hq<;>simp at h
   |value f=>simp at hq
   |invoke x n=>simp at hq
end Go.Am
end
