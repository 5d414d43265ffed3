/-
  Package hier: each of its laws for every argument; no conditions. The last text states which.
-/
import Derived.Test.YtdaglldahidmbaaGreatGAmRel
import Derived.Lib.UnsafeStr
set_option linter.unusedVariables false
set_option linter.unusedSimpArgs false
noncomputable section
namespace Go.Am
open Go
theorem uA{α:Type}{P:Program}:∀{s:Sem α} {r:α},cF P s=some r->∀w,s.run P w= .ok r w
 | .pure a,r,h,w=>by simp [cF] at h;subst h;rfl
 | .program k,r,h,w=>by
  simp only [cF] at h;simp only [Sem.run];exact uA h w
 | .mark _ k,r,h,w=>by
  simp only [cF] at h;simp only [Sem.run];exact uA h w
 | .load ..,_,h,_| .store ..,_,h,_| .new ..,_,h,_| .shape ..,_,h,_| .freeze ..,_,h,_| .frozen ..,_,h,_| .getObj ..,_,h,_
 | .setObj ..,_,h,_| .choose ..,_,h,_| .sys ..,_,h,_| .halt ..,_,h,_=>by simp [cF] at h
def Ay(GL:List Nat)(φ:dX):Prop:=∀g∈GL,∃e,φ g=some e/\e.block=g/\e.base=0
variable{P:Program}{GL:List Nat}{φ:dX}{T:Tr Value}{n:Nat}{a:Act}{w:World}
theorem bO(hg:Ay GL φ)(hT:gO φ T n a.tmps):∀{x:Operand} {v:Value},ev GL T x=some v->bH φ v (a.eval x)
 | .tmp t,v,h=>by
  obtain⟨v',h1,h2⟩:=hT.2 t v h;simpa [Act.eval,Array.getD_eq_getD_getElem?,h1] using h2
 | .const c,v,h=>by
  simp only [ev] at h;cases hf:flat c<;>simp [hf] at h;subst h;exact bH.refl_flat φ c hf
 | .global g,v,h=>by
  simp only [ev] at h;cases hf:GL.any (Nat.beq g)<;>simp [hf] at h;subst h;obtain⟨g',hm,hb⟩:=List.any_eq_true.1 hf;have:g=g':=xBa hb;subst this;obtain⟨e,he,h1,h2⟩:=hg g hm;exact .ptr ⟨rfl,rfl,e,he,h1.symm,by simp [h2]⟩
 | .func f,v,h=>by
  simp only [ev,Option.some.injEq] at h;subst h;exact bH.refl_flat φ _ rfl
theorem gA(hg:Ay GL φ)(hT:gO φ T n a.tmps):∀{l:List Operand} {vs:List Value},pS GL T l=some vs->cE φ vs (l.map a.eval)
 | [],vs,h=>by simp [pS] at h;subst h;exact .nil
 |x::l,vs,h=>by
  simp only [pS] at h;split at h
  ·rename_i v vs' h1 h2;simp at h;subst h;exact .cons (bO hg hT h1) (gA hg hT h2)
  ·simp at h
theorem Kd(hg:Ay GL φ)(hT:gO φ T n a.tmps):∀{l:List Operand} {vs:List Value},pS GL T l=some vs->dU vs=true->
  ∀x∈l,(ev GL T x).getD undef=a.eval x
 | [],_,_,_,_,hx=>by simp at hx
 |y::l,vs,h,hf,x,hx=>by
  simp only [pS] at h;split at h
  ·rename_i v vs' h1 h2;simp at h;subst h;simp [dU] at hf;rcases List.mem_cons.1 hx with rfl|hx
   ·rw[h1];exact((bO hg hT h1).of_flat hf.1).symm
   ·exact Kd hg hT h2 hf.2 x hx
  ·simp at h
theorem lR(hg:Ay GL φ)(hT:gO φ T n a.tmps){o:Oper}(hs:∀cs b,o.op≠ .select cs b){r:AR}(h:jS P GL o T=some r):
  ∃v,r= .val v/\∃v',(execOp a.eval o).run P w= .ok (.value v') w/\bH φ v v':=by
 unfold jS at h
 split at h
 ·rename_i vs hvs;cases hf:dU vs<;>simp only [hf,cond_true,cond_false] at h
  ·simp at h
  ·split at h
   ·rename_i v hv;cases hfv:flat v<;>simp only [hfv,cond_true,cond_false] at h
    ·simp at h
    ·simp at h;subst h;have he:execOp (fun x=>(ev GL T x).getD undef) o=execOp a.eval o:=
      execOp_congr o hs fun x hx=>Kd hg hT hvs hf x (by simpa using hx)
     rw[he] at hv;exact⟨v,rfl,v,uA hv w,bH.refl_flat φ v hfv⟩
   ·simp at h
 ·simp at h
@[simp] theorem aN (t:TypeId) {d:TypeDesc} (h:P.underlying t=some d):(underlying t).run P w= .ok d w:=by
 simp [underlying,h]
@[simp] theorem lI (t:TypeId) {i:TypeInfo} (h:P.info? t=some i):(typeInfo t).run P w= .ok i w:=by
 simp [typeInfo,h]
@[simp] theorem cW (t:TypeId) {i:TypeInfo} (h:P.info? t=some i):(sizeOf t).run P w= .ok i.size w:=by simp [sizeOf,lI t h]
theorem sJ(t:TypeId){d:TypeDesc}(h:P.underlying t=some d):(isAgg t).run P w= .ok (eC d) w:=by simp only [isAgg,Sem.run_bind,aN t h,Result.andThen_ok];cases d<;>rfl
theorem Dv{t:TypeId}{cs:List Value}{a0:Array Value}(hl:cE φ cs a0.toList){off:Nat}{v:Value}(h:apart P t cs off=some v):
  ∃v',(part t a0 off).run P w= .ok v' w/\bH φ v v':=by
 unfold apart at h
 split at h
 ·rename_i d hd;cases hg:eC d<;>simp only [hg,cond_true,cond_false] at h
  ·obtain⟨v',h1,h2⟩:=hl.get h;refine⟨v',?_,h2⟩;have a1:a0[off]?=some v':=by simpa using h1
   simp [part,sJ t hd,hg,a1]
  ·split at h
   ·rename_i i hi;simp at h;subst h;refine⟨.agg (a0.extract off (off+i.size)),by simp [part,sJ t hd,hg,cW t hi],?_⟩;have:=(hl.drop off).take i.size;have e:a0.extract off (off+i.size)=((a0.toList.drop off).take i.size).toArray:=by
     apply Array.ext';simp
    rw[e];exact .agg this
   ·simp at h
 ·simp at h
theorem cE.splice:∀{l l' m m':List Value} (_:cE φ l l') (_:cE φ m m') (j:Nat),cE φ (splice l j m) (splice l' j m')
 |_,_,_,_,h,.nil,j=>by
  cases h<;>cases j<;>simp only [Go.Am.splice]<;>first|exact .nil|exact .cons ‹_› ‹_›
 |_,_,_,_,.nil,.cons _ _,j=>by cases j<;>exact .nil
 |_,_,_,_,.cons h k,.cons hv hm,0=> .cons hv (cE.splice k hm 0)
 |_,_,_,_,.cons h k,.cons hv hm,j+1=> .cons h (cE.splice k (.cons hv hm) j)
theorem iO(cs:List Value)(j:Nat):splice cs j []=cs:=by cases cs<;>cases j<;>rfl
theorem dK:∀(cs:List Value) (j:Nat) (l:List Value),(splice cs j l).length=cs.length
 |cs,j,[]=>by rw[iO]
 | [],j,_::_=>by cases j<;>rfl
 |_::cs,0,v::l=>by simp [splice,dK cs 0 l]
 |_::cs,j+1,v::l=>by simp [splice,dK cs j (v::l)]
theorem sL:∀(cs:List Value) (j:Nat) (v:Value) (l:List Value),splice cs j (v::l)=splice (cs.set j v) (j+1) l
 | [],j,v,l=>by cases l<;>cases j<;>simp [splice]
 |c::cs,0,v,[]=>by simp [splice,iO]
 |c::cs,0,v,u::l=>by simp [splice]
 |c::cs,j+1,v,[]=>by simp [splice,iO,sL cs j v []]
 |c::cs,j+1,v,u::l=>by simp only [splice,List.set_cons_succ];rw[sL cs j v (u::l)]
theorem rE:∀(l:List Value) (k:Nat) (off:Nat) (cs:Array Value),
  (l.zipIdx k).foldl (fun(cs:Array Value) (p:Value×Nat)=>cs.setIfInBounds (off+p.2) p.1) cs=(splice cs.toList (off+k) l).toArray
 | [],k,off,cs=>by simp [iO]
 |v::l,k,off,cs=>by
  simp only [List.zipIdx_cons,List.foldl_cons];rw[rE l (k+1) off,sL];simp [Nat.add_assoc]
theorem sB{place:Nat->Option (Nat×Nat)}:∀{parts:List (Nat×Value)} {parts':List (Nat×Value)} {cells:List Value} {cells':Array Value} {r:List Value},
  parts.map (·.1)=parts'.map (·.1)->cE φ (parts.map (·.2)) (parts'.map (·.2))->cE φ cells cells'.toList->vB place cells parts=some r->
  ∃r',Instr.fill place cells' parts'=some r'/\cE φ r r'.toList
 | [],[],_,cells',_,_,_,hc,h=>by simp [vB] at h;subst h;exact⟨cells',rfl,hc⟩
 | [],_::_,_,_,_,hi,_,_,_=>by simp at hi
 |_::_,[],_,_,_,hi,_,_,_=>by simp at hi
 |(i,v)::parts,(i',v')::parts',cells,cells',r,hi,hp,hc,h=>by
  simp only [List.map_cons,List.cons.injEq] at hi;obtain⟨rfl,hi⟩:=hi;simp only [List.map_cons] at hp;cases hp with
  |cons hv hp=>
   simp only [vB] at h
   cases hpl:place i with
   |none=>simp [hpl] at h
   |some q=>
    obtain⟨off,size⟩:=q
    simp only [hpl] at h
    cases hb:(Nat.beq v.cells.toList.length size&&Nat.ble (off+v.cells.toList.length) cells.length)<;>simp only [hb,cond_true,cond_false] at h
    ·simp at h
    ·simp only [Bool.and_eq_true,Nat.beq_eq,Nat.ble_eq] at hb;have a1:=hv.cells.length;have a0:=hc.length;simp only [Array.length_toList] at a1 a0 hb;have hz:v'.cells.zipIdx.foldl (fun(cs:Array Value) (p:Value×Nat)=>cs.setIfInBounds (off+p.2) p.1) cells'=(splice cells'.toList off v'.cells.toList).toArray:=by
      rw[<-Array.foldl_toList,Array.toList_zipIdx];simpa using rE v'.cells.toList 0 off cells'
     simp only [Instr.fill,hpl];rw[if_neg (by simp;omega)];have:=sB (place:=place) hi hp (cells':=(splice cells'.toList off v'.cells.toList).toArray) (by simpa using hc.splice hv.cells off) h;rw[<-hz] at this;exact this
end Go.Am
end

namespace Go.Am
open Go
variable{P:Program}{GL:List Nat}{φ:dX}{T:Tr Value}{n:Nat}{a:Act}{w:World}
theorem eE(t:TypeId){i:TypeInfo}{z:Value}(h:P.info? t=some i)(hz:i.zero=some z):(zeroValue t).run P w= .ok z w:=by simp [zeroValue,lI t h,hz]
theorem qR(hg:Ay GL φ)(hT:gO φ T n a.tmps):∀{l:List (Nat×Operand)} {vs:List (Nat×Value)},nE GL T l=some vs->
  vs.map (·.1)=(l.map fun(i,x)=>(i,a.eval x)).map (·.1)/\cE φ (vs.map (·.2)) ((l.map fun(i,x)=>(i,a.eval x)).map (·.2))
 | [],vs,h=>by simp [nE] at h;subst h;exact⟨rfl,.nil⟩
 |(i,x)::l,vs,h=>by
  simp only [nE] at h;split at h
  ·rename_i v vs' h1 h2;simp at h;subst h;have ih:=qR hg hT h2;exact⟨by simp only [List.map_cons,ih.1],.cons (bO hg hT h1) ih.2⟩
  ·simp at h
theorem Av:∀{fs:List Field} {pl:List (Nat×Nat)},yC P fs=some pl->
  (fs.mapM fun f=>do pure (f.offset,<-sizeOf f.type):Sem (List (Nat×Nat))).run P w= .ok pl w
 | [],pl,h=>by simp [yC] at h;subst h;simp
 |f::fs,pl,h=>by
  simp only [yC] at h;split at h
  ·rename_i i r h1 h2;simp at h;subst h;simp [List.mapM_cons,cW f.type h1];have:=Av h2;simp at this;simp [this]
  ·simp at h
theorem Jz{t:TypeId}{ps:List (Nat×Value)}{ps':Array (Nat×Value)}(h1:ps.map (·.1)=ps'.toList.map (·.1))(h2:cE φ (ps.map (·.2)) (ps'.toList.map (·.2)))
  {v:Value} (h:Mi P t ps=some v):∃v',(Instr.build t ps').run P w= .ok v' w/\bH φ v v':=by
 unfold Mi at h
 split at h
 ·rename_i i d hi hd;split at h
  ·rename_i z hz;cases hf:flat z<;>simp only [hf,cond_true,cond_false] at h
   ·simp at h
   ·have a1:=(bH.refl_flat φ z hf).cells;split at h
    ·rename_i fields;split at h
     ·rename_i pl hpl;split at h
      ·rename_i cs hcs;simp at h;subst h;obtain⟨a0,e1,e2⟩:=sB (cells':=z.cells) h1 h2 a1 hcs;refine⟨.agg a0,?_,by simpa using bH.agg' e2⟩;have a2:=Av (w:=w) hpl;have hm:(fields.mapM fun f=>do pure (f.offset,<-sizeOf f.type):Sem (Array (Nat×Nat))).run P w= .ok pl.toArray w:=by
        simp only [Array.mapM_eq_mapM_toList,Sem.run_map,a2,Result.andThen_ok]
       simp only [Instr.build,Sem.run_bind,eE t hi hz,Result.andThen_ok,aN t hd,hm];simp [e1]
      ·simp at h
     ·simp at h
    ·rename_i n elem;split at h
     ·rename_i e he;split at h
      ·rename_i cs hcs;simp at h;subst h;obtain⟨a0,e1,e2⟩:=sB (cells':=z.cells) h1 h2 a1 hcs;refine⟨.agg a0,?_,by simpa using bH.agg' e2⟩;simp only [Instr.build,Sem.run_bind,eE t hi hz,Result.andThen_ok,aN t hd,cW elem he];simp [e1]
      ·simp at h
     ·simp at h
    ·simp at h
  ·simp at h
 ·simp at h
theorem Bb{s:TypeId}{x x' v:Value}{f:Nat}(hx:bH φ x x')(h:vT P s x f=some v):
  ∃v',(Instr.fieldAt s x' f).run P w= .ok v' w/\bH φ v v':=by
 unfold vT at h
 split at h
 ·rename_i fields ad hs;obtain⟨a0,rfl,h1,h2,e,he,hb,ho⟩:=hx.ptr_inv;split at h
  ·rename_i fl hfl;split at h
   ·rename_i i hi;cases hz:Nat.beq i.size 0<;>simp only [hz,cond_true,cond_false] at h
    ·simp at h;subst h;have a1:i.size≠0:=by intro e;simp [e] at hz
     refine⟨.pointer (some (a0.add fl.offset)),?_,.ptr ⟨?_,?_,e,?_,?_,?_⟩⟩
     ·simp [Instr.fieldAt,aN s hs,hfl,Instr.sureAddr,fieldPlace,cW fl.type hi,a1]
     all_goals (unfold Addr.add;split<;>simp_all<;>omega)
    ·simp at h
   ·simp at h
  ·simp at h
 ·simp at h
theorem Kf{s:TypeId}{x x' v:Value}{f:Nat}(hx:bH φ x x')(h:Mo P s x f=some v):
  ∃v',(Instr.field s x' f).run P w= .ok v' w/\bH φ v v':=by
 unfold Mo at h
 split at h
 ·rename_i fields cs hs;obtain⟨cs',rfl,hl⟩:=hx.agg_inv;split at h
  ·rename_i fl hfl;obtain⟨v',h1,h2⟩:=Dv (P:=P) (w:=w) hl h;exact⟨v',by simp [Instr.field,aN s hs,hfl,asAgg,h1],h2⟩
  ·simp at h
 ·simp at h
theorem tV{i:Int}{len:Nat}(h:Nq i len=true):0<=i/\i<len:=by simpa [Nq] using h
theorem Gz.add{a a':Addr}(h:Gz φ a a')(k:Nat):Gz φ (a.add k) (a'.add k):=by obtain⟨h1,h2,e,he,hb,ho⟩:=h;refine⟨?_,?_,e,?_,?_,?_⟩<;>(unfold Addr.add;split<;>simp_all<;>omega)
theorem Bc{t:TypeId}{x x' ix a2 v:Value}(hx:bH φ x x')(hi:bH φ ix a2)(h:oW P t x ix=some v):
  ∃v',(Instr.indexAt t x' a2).run P w= .ok v' w/\bH φ v v':=by
 unfold oW at h
 split at h
 ·rename_i elem ad len cap k i ht;rcases hx.slice_or with⟨a0,cap',rfl,h1,h2,h3,h4,e,he,h5⟩|⟨_,_,a3,_,_⟩;case inr=>
   exfalso
   subst a3
   split at h
   ·have hb:Nq i 0=false:=by
     cases hb:Nq i 0
     ·rfl
     ·have:=tV hb;omega
    rw[hb] at h;simp at h
   ·simp at h
  cases hi.int_inv;split at h
  ·rename_i ei hei;cases hb:Nq i len<;>simp only [hb,cond_true,cond_false] at h
   ·simp at h
   ·simp at h;subst h;have a1:=tV hb;have a4:cap'≠0:=by intro e;omega
    have hA:Gz φ ad a0:=by
     rcases h5 with h5|h5
     ·exact absurd h5 a4
     ·exact⟨h1,h2,e,he,h5.1,h5.2.1⟩
    exact⟨.pointer (some (a0.add (i.toNat*ei.size))),by simp [Instr.indexAt,asIntOf,aN t ht,cW elem hei,a1],.ptr (hA.add _)⟩
  ·simp at h
 ·rename_i len elem ad k i ht;obtain⟨a0,rfl,hA⟩:=hx.ptr_inv;cases hi.int_inv;split at h
  ·rename_i ei hei;cases hb:Nq i len<;>simp only [hb,cond_true,cond_false] at h
   ·simp at h
   ·simp at h;subst h;have a1:=tV hb;exact⟨.pointer (some (a0.add (i.toNat*ei.size))),by simp [Instr.indexAt,asIntOf,aN t ht,Instr.sureAddr,cW elem hei,a1],.ptr (hA.add _)⟩
  ·simp at h
 ·simp at h
theorem Kl{t:TypeId}{x x' ix a0 v:Value}(hx:bH φ x x')(hi:bH φ ix a0)(h:Mp P t x ix=some v):
  ∃v',(Instr.index t x' a0).run P w= .ok v' w/\bH φ v v':=by
 unfold Mp at h
 split at h
 ·rename_i len elem cs k i ht;obtain⟨cs',rfl,hl⟩:=hx.agg_inv;cases hi.int_inv;split at h
  ·rename_i ei hei;cases hb:Nq i len<;>simp only [hb,cond_true,cond_false] at h
   ·simp at h
   ·have a1:=tV hb;obtain⟨v',h1,h2⟩:=Dv (P:=P) (w:=w) hl h;exact⟨v',by simp [Instr.index,asIntOf,aN t ht,cW elem hei,a1,h1],h2⟩
  ·simp at h
 ·simp at h
theorem zS{x x' v:Value}{xT a0:TypeId}{ok:Bool}(hx:bH φ x x')(h:tM P x a0 ok=some v):
  ∃v',(Instr.typeAssert x' xT a0 ok).run P w= .ok v' w/\bH φ v v':=by
 unfold tM at h
 split at h
 ·simp at h
 ·rename_i d t u hni hd;obtain⟨u',rfl,hu⟩:=hx.iface_inv;cases hb:Nat.beq t a0<;>simp only [hb,cond_true,cond_false] at h
  ·have a1:t≠a0:=by intro e;simp [e] at hb
   cases ok<;>simp only [cond_true,cond_false] at h
   ·simp at h
   ·split at h
    ·rename_i i hi;split at h
     ·rename_i z hz;cases hf:flat z<;>simp only [hf,cond_true,cond_false] at h
      ·simp at h
      ·simp at h;subst h;refine⟨.tuple #[z,.bool false],?_,bH.refl_flat φ _ (by simp [flat,nZ,dU,hf])⟩;simp only [Instr.typeAssert,Sem.run_bind,aN a0 hd,Result.andThen_ok];cases d<;>first|exact absurd rfl (hni _)|simp [a1,eE a0 hi hz]
     ·simp at h
    ·simp at h
  ·have he:t=a0:=xBa hb;subst he;simp at h;subst h;refine⟨if ok then .tuple #[u',.bool true] else u',?_,?_⟩
   ·simp only [Instr.typeAssert,Sem.run_bind,aN t hd,Result.andThen_ok];cases d<;>first|exact absurd rfl (hni _)|simp
   ·cases ok
    ·exact hu
    ·exact .tuple (.cons hu (.cons (.leaf rfl) .nil))
 ·rename_i d hni hd;cases hx.of_flat rfl;cases ok<;>simp only [cond_true,cond_false] at h
  ·simp at h
  ·split at h
   ·rename_i i hi;split at h
    ·rename_i z hz;cases hf:flat z<;>simp only [hf,cond_true,cond_false] at h
     ·simp at h
     ·simp at h;subst h;refine⟨.tuple #[z,.bool false],?_,bH.refl_flat φ _ (by simp [flat,nZ,dU,hf])⟩;simp only [Instr.typeAssert,Sem.run_bind,aN a0 hd,Result.andThen_ok];cases d<;>first|exact absurd rfl (hni _)|simp [eE a0 hi hz]
    ·simp at h
   ·simp at h
 ·simp at h
theorem jH{t:TypeId}{x' y':Value}{r:Bool}(h:(Op.equal t x' y').run P w= .ok r w)
  (hb:binOp .eql t x' y'=(do pure (.bool (<-Op.equal t x' y')))/\binOp .neq t x' y'=(do pure (.bool (!(<-Op.equal t x' y'))))):
  (binOp .eql t x' y').run P w= .ok (.bool r) w/\(binOp .neq t x' y').run P w= .ok (.bool (!r)) w:=by rw[hb.1,hb.2];simp [h]
section eqs
variable{t:TypeId}(d:Nat)
theorem xN{e:TypeId}(ht:P.underlying t=some (.pointer e))(b:Option Addr):(Op.equalIn (d+1) t (.pointer none) (.pointer b)).run P w= .ok b.isNone w:=by simp [Op.equalIn,aN t ht]
theorem Hq{e:TypeId}(ht:P.underlying t=some (.pointer e))(b:Addr):(Op.equalIn (d+1) t (.pointer (some b)) (.pointer none)).run P w= .ok false w:=by simp [Op.equalIn,aN t ht]
theorem Hr{e:TypeId}(ht:P.underlying t=some (.pointer e)){i:TypeInfo}(hi:P.info? e=some i)(hz:i.size≠0)(a b:Addr)(hab:a.block=b.block):
  (Op.equalIn (d+1) t (.pointer (some a)) (.pointer (some b))).run P w= .ok (a==b) w:=by simp [Op.equalIn,aN t ht,cW e hi,hz,sameAddr,hab]
theorem Cq{ms:Array (String×TypeId)}(ht:P.underlying t=some (.interface ms))(s:TypeId)(v:Value):(Op.equalIn (d+1) t (.iface s v) .nilIface).run P w= .ok false w:=by simp [Op.equalIn,aN t ht]
theorem Cr{ms:Array (String×TypeId)}(ht:P.underlying t=some (.interface ms))(s:TypeId)(v:Value):(Op.equalIn (d+1) t .nilIface (.iface s v)).run P w= .ok false w:=by simp [Op.equalIn,aN t ht]
theorem Fb{ms:Array (String×TypeId)}(ht:P.underlying t=some (.interface ms))(s u:TypeId)(hne:s≠u)(v x:Value):(Op.equalIn (d+1) t (.iface s v) (.iface u x)).run P w= .ok false w:=by simp [Op.equalIn,aN t ht,hne]
theorem tS{e:TypeId}(ht:P.underlying t=some (.slice e))(b:Option Addr)(l c l' c':Nat):(Op.equalIn (d+1) t (.slice none l c) (.slice b l' c')).run P w= .ok b.isNone w:=by simp [Op.equalIn,aN t ht]
theorem Cs{e:TypeId}(ht:P.underlying t=some (.slice e))(b:Addr)(l c l' c':Nat):(Op.equalIn (d+1) t (.slice (some b) l c) (.slice none l' c')).run P w= .ok false w:=by simp [Op.equalIn,aN t ht]
theorem Fc{ps rs:Array TypeId}{v:Bool}(ht:P.underlying t=some (.func ps rs v))(f:Fn)(x y:Array Value):(Op.equalIn (d+1) t .nilFunc (.func f x y)).run P w= .ok false w:=by simp [Op.equalIn,aN t ht]
theorem Fa{ps rs:Array TypeId}{v:Bool}(ht:P.underlying t=some (.func ps rs v))(f:Fn)(x y:Array Value):(Op.equalIn (d+1) t (.func f x y) .nilFunc).run P w= .ok false w:=by simp [Op.equalIn,aN t ht]
end eqs
theorem Ca{t:TypeId}{x x' y y':Value}{r:Bool}(hx:bH φ x x')(hy:bH φ y y')(h:Ve P t x y=some r):
  ((binOp .eql t x' y').run P w= .ok (.bool r) w/\(binOp .neq t x' y').run P w= .ok (.bool (!r)) w)/\(∀op X Y,(eqGuard op t X Y x' y').run P w= .ok () w):=by
 unfold Ve at h
 split at h
 case h_1=>
  rename_i b ht
  cases hx.of_flat rfl
  cases b with
  |none=>cases hy.of_flat rfl;simp at h;subst h;exact⟨jH (xN 9999 ht _) ⟨rfl,rfl⟩,fun op X Y=>by simp [eqGuard]⟩
  |some b=>obtain⟨b',rfl,_⟩:=hy.ptr_inv;simp at h;subst h;exact⟨jH (xN 9999 ht _) ⟨rfl,rfl⟩,fun op X Y=>by simp [eqGuard]⟩
 case h_2=>
  rename_i ht
  obtain⟨a0,rfl,_⟩:=hx.ptr_inv
  cases hy.of_flat rfl
  simp at h;subst h
  exact⟨jH (Hq 9999 ht _) ⟨rfl,rfl⟩,fun op X Y=>by simp [eqGuard]⟩
 case h_3=>
  rename_i e ad bd ht
  obtain⟨a0,rfl,h1,h2,e1,a4,b4,a8⟩:=hx.ptr_inv
  obtain⟨a1,rfl,k1,k2,e2,a6,b5,a9⟩:=hy.ptr_inv
  split at h
  ·rename_i i hi;cases hz:Nat.beq i.size 0<;>simp only [hz,cond_true,cond_false] at h
   ·cases hb:Nat.beq ad.block bd.block<;>simp only [hb,cond_true,cond_false] at h
    ·simp at h
    ·have a5:ad.block=bd.block:=xBa hb;simp at h;have b3:i.size≠0:=by intro e;simp [e] at hz
     rw[a5,a6] at a4;cases a4;have a2:a0.block=a1.block:=by omega
     have hr:r=(a0==a1):=by
      rw[<-h];obtain⟨b1,o1,s1⟩:=a0;obtain⟨b2,o2,s2⟩:=a1;simp only at a2 h2 k2 a8 a9;subst a2 h2 k2;rw[Bool.eq_iff_iff];simp only [beq_iff_eq,Addr.mk.injEq,true_and,and_true,Nat.beq_eq];omega
     rw[hr];exact⟨jH (Hr 9999 ht hi b3 _ _ a2) ⟨rfl,rfl⟩,fun op X Y=>by simp [eqGuard]⟩
   ·simp at h
  ·simp at h
 case h_4=>
  rename_i ht
  cases hx.of_flat rfl;obtain⟨_,rfl,_⟩:=hy.iface_inv;simp at h;subst h;exact⟨jH (Cr 9999 ht _ _) ⟨rfl,rfl⟩,fun op X Y=>by simp [eqGuard]⟩
 case h_5=>
  rename_i ht
  cases hy.of_flat rfl;obtain⟨_,rfl,_⟩:=hx.iface_inv;simp at h;subst h;exact⟨jH (Cq 9999 ht _ _) ⟨rfl,rfl⟩,fun op X Y=>by simp [eqGuard]⟩
 case h_6=>
  rename_i s v u x2 ht
  obtain⟨_,rfl,_⟩:=hx.iface_inv
  obtain⟨_,rfl,_⟩:=hy.iface_inv
  cases hb:Nat.beq s u<;>simp only [hb,cond_true,cond_false] at h
  ·simp at h;subst h;have a7:s≠u:=by intro e;simp [e] at hb
   exact⟨jH (Fb 9999 ht _ _ a7 _ _) ⟨rfl,rfl⟩,fun op X Y=>by simp [eqGuard]⟩
  ·simp at h
 case h_7=>
  rename_i e l c b l2 c2 ht
  have b0:∃l' c',x'= .slice none l' c':=by cases hx with|leaf h=>exact⟨_,_,rfl⟩
  obtain⟨l',c',rfl⟩:=b0
  cases b with
  |none=>
   have a3:∃l' c',y'= .slice none l' c':=by cases hy with|leaf h=>exact⟨_,_,rfl⟩
   obtain⟨l3,c3,rfl⟩:=a3
   simp at h;subst h;exact⟨jH (tS 9999 ht _ _ _ _ _) ⟨rfl,rfl⟩,fun op X Y=>by simp [eqGuard]⟩
  |some b=>obtain⟨b',c',rfl⟩:=hy.slice_sh;simp at h;subst h;exact⟨jH (tS 9999 ht _ _ _ _ _) ⟨rfl,rfl⟩,fun op X Y=>by simp [eqGuard]⟩
 case h_8=>
  rename_i ht
  have a3:∃l' c',y'= .slice none l' c':=by cases hy with|leaf h=>exact⟨_,_,rfl⟩
  obtain⟨l3,c3,rfl⟩:=a3
  obtain⟨b',c',rfl⟩:=hx.slice_sh
  simp at h;subst h;exact⟨jH (Cs 9999 ht _ _ _ _ _) ⟨rfl,rfl⟩,fun op X Y=>by simp [eqGuard]⟩
 case h_9=>
  rename_i ht
  cases hx.of_flat rfl
  obtain⟨_,_,_,rfl⟩:=hy.func_sh
  simp at h;subst h;exact⟨jH (Fc 9999 ht _ _ _) ⟨rfl,rfl⟩,fun op X Y=>by simp [eqGuard]⟩
 case h_10=>
  rename_i ht
  cases hy.of_flat rfl
  obtain⟨_,_,_,rfl⟩:=hx.func_sh
  simp at h;subst h;exact⟨jH (Fa 9999 ht _ _ _) ⟨rfl,rfl⟩,fun op X Y=>by simp [eqGuard]⟩
 case h_11=>simp at h
end Go.Am

namespace Go.Am
open Go
variable{P:Program}{GL:List Nat}{φ:dX}{T:Tr Value}{n:Nat}{a:Act}{w:World}
theorem kX{v:Option Value}{r:AR}(h:yH v=some r):∃u,v=some u/\r= .val u:=by
 cases v with
 |none=>simp [yH] at h
 |some u=>simp [yH] at h;exact⟨u,rfl,h.symm⟩
theorem oG(hg:Ay GL φ)(hT:gO φ T n a.tmps){o:Oper}(hs:∀cs b,o.op≠ .select cs b){r:AR}{b:Option Value}(h:kO P GL o T b=some r)
  (hb:∀v,b=some v->∃v',(execOp a.eval o).run P w= .ok (.value v') w/\bH φ v v'):
  ∃v,r= .val v/\∃v',(execOp a.eval o).run P w= .ok (.value v') w/\bH φ v v':=by
 unfold kO at h
 split at h
 ·rename_i r' hr;simp at h;subst h;exact lR hg hT hs hr
 ·obtain⟨u,hu,rfl⟩:=kX h;exact⟨u,rfl,hb u hu⟩
theorem iH{o:Oper}{s:Sem Value}{v:Value}{w w':World}(he:execOp a.eval o=(do pure (.value (<-s))))(h:s.run P w= .ok v w'):
  (execOp a.eval o).run P w= .ok (.value v) w':=by
 rw[he];simp [h]
set_option maxHeartbeats 1000000 in
theorem vV(hg:Ay GL φ)(hT:gO φ T n a.tmps){o:Oper}{r:AR}(h:fL P GL o T=some r):
  ∃v,r= .val v/\∃v',(execOp a.eval o).run P w= .ok (.value v') w/\bH φ v v':=by
 obtain⟨dst,op,type,pos,after,guard⟩:=o
 unfold fL at h
 split at h<;>rename_i hop<;>simp only at hop
 case h_1 x|h_2 x=>
  subst hop
  obtain⟨u,hu,rfl⟩:=kX h
  exact⟨u,rfl,_,rfl,bO hg hT hu⟩
 case h_3 c x y=>
  subst hop
  split at h
  ·rename_i t hc;obtain⟨u,hu,rfl⟩:=kX h;have h1:=(bO hg hT hc).bool_inv;have h2:=bO hg hT hu;refine⟨u,rfl,a.eval (bif t then x else y),?_,h2⟩;simp only [execOp,h1,asBool];cases t<;>simp
  ·simp at h
 case h_4 t parts=>
  subst hop
  split at h
  ·rename_i ps hps;obtain⟨u,hu,rfl⟩:=kX h;have h1:=qR hg hT hps;obtain⟨v',e1,e2⟩:=Jz (w:=w) (ps':=parts.map fun(i,x)=>(i,a.eval x)) (by simpa using h1.1) (by simpa using h1.2) hu;exact⟨u,rfl,v',iH rfl e1,e2⟩
  ·simp at h
 case h_5 x=>
  subst hop
  split at h
  ·rename_i ad hx;simp at h;subst h;have h1:=bO hg hT hx;obtain⟨a0,h2,h3⟩:=h1.ptr_inv;exact⟨_,rfl,_,by simp [execOp,h2],.ptr h3⟩
  ·rename_i t v hx;simp at h;subst h;have h1:=bO hg hT hx;obtain⟨u,h2,h3⟩:=h1.iface_inv;exact⟨_,rfl,_,by simp [execOp,h2],.iface h3⟩
  ·rename_i f x1 y1 hx;simp at h;subst h;have h1:=bO hg hT hx;obtain⟨u,u2,h2,h3⟩:=h1.func_inv rfl;exact⟨_,rfl,.func (.func f) u u2,by simp [execOp,h2],by rw[<-h2];exact h1⟩
  ·simp at h
 case h_6 bop t x y yt=>
  subst hop
  refine oG hg hT (by simp) h fun v hv=>?_
  split at hv
  ·rename_i u1 u2 h1 h2;split at hv
   ·rename_i r hr;simp at hv;subst hv;obtain⟨⟨e1,_⟩,e2⟩:=Ca (w:=w) (bO hg hT h1) (bO hg hT h2) hr;exact⟨_,iH rfl (by simp only [Sem.run_bind,e2,Result.andThen_ok,e1]),.leaf rfl⟩
   ·simp at hv
  ·rename_i u1 u2 h1 h2;split at hv
   ·rename_i r hr;simp at hv;subst hv;obtain⟨⟨_,e1⟩,e2⟩:=Ca (w:=w) (bO hg hT h1) (bO hg hT h2) hr;exact⟨_,iH rfl (by simp only [Sem.run_bind,e2,Result.andThen_ok,e1]),.leaf rfl⟩
   ·simp at hv
  ·simp at hv
 case h_7 xT x=>
  subst hop
  split at h
  ·rename_i d v hd hx;cases hi:De d<;>simp only [hi,cond_true,cond_false] at h
   ·simp at h;subst h;refine⟨_,rfl,.iface xT (a.eval x),iH rfl ?_,.iface (bO hg hT hx)⟩;simp only [Instr.makeInterface,Sem.run_bind,aN xT hd,Result.andThen_ok];cases d<;>first|rfl|simp [De] at hi
   ·simp at h
  ·simp at h
 case h_8 fn first captured=>
  subst hop
  split at h
  ·rename_i l1 l2 h1 h2;cases hyf:nF fn<;>simp only [hyf,cond_true,cond_false] at h;case true=>cases h
   simp at h;subst h;refine⟨_,rfl,.func fn (first.map a.eval) (captured.map a.eval),rfl,?_⟩;have e1:=gA hg hT h1;have e2:=gA hg hT h2;have h3:first.map a.eval=⟨first.toList.map a.eval⟩:=by apply Array.ext';simp
   have h4:captured.map a.eval=⟨captured.toList.map a.eval⟩:=by apply Array.ext';simp
   rw[h3,h4];exact bH.func (fn:=fn) hyf e1 e2
  ·simp at h
 case h_9 s x f=>
  subst hop
  split at h
  ·rename_i v hx;obtain⟨u,hu,rfl⟩:=kX h;obtain⟨v',e1,e2⟩:=Bb (w:=w) (bO hg hT hx) hu;exact⟨u,rfl,v',iH rfl e1,e2⟩
  ·simp at h
 case h_10 s x f=>
  subst hop
  split at h
  ·rename_i v hx;obtain⟨u,hu,rfl⟩:=kX h;obtain⟨v',e1,e2⟩:=Kf (w:=w) (bO hg hT hx) hu;exact⟨u,rfl,v',iH rfl e1,e2⟩
  ·simp at h
 case h_11 t x ix=>
  subst hop
  split at h
  ·rename_i v i hx hi;obtain⟨u,hu,rfl⟩:=kX h;obtain⟨v',e1,e2⟩:=Bc (w:=w) (bO hg hT hx) (bO hg hT hi) hu;exact⟨u,rfl,v',iH rfl e1,e2⟩
  ·simp at h
 case h_12 t x ix=>
  subst hop
  refine oG hg hT (by simp) h fun v hv=>?_
  split at hv
  ·rename_i v i hx hi;obtain⟨v',e1,e2⟩:=Kl (w:=w) (bO hg hT hx) (bO hg hT hi) hv;exact⟨v',iH rfl e1,e2⟩
  ·simp at hv
 case h_13 x xT asserted ok=>
  subst hop
  split at h
  ·rename_i v hx;obtain⟨u,hu,rfl⟩:=kX h;obtain⟨v',e1,e2⟩:=zS (w:=w) (xT:=xT) (bO hg hT hx) hu;exact⟨u,rfl,v',iH rfl e1,e2⟩
  ·simp at h
 case h_14 x i=>
  subst hop
  split at h
  ·rename_i vs hx;obtain⟨u,hu,rfl⟩:=kX h;obtain⟨a5,e1,e2⟩:=(bO hg hT hx).tuple_inv;obtain⟨v',e3,e4⟩:=e2.get (j:=i) (v:=u) (by simpa using hu);have a3:a5[i]?=some v':=by simpa using e3
   exact⟨u,rfl,v',iH rfl (by simp [Instr.extract,e1,a3]),e4⟩
  ·simp at h
 case h_15 c=>
  subst hop
  split at h
  ·rename_i hc;refine oG hg hT (by simp) h fun v hv=>?_
   split at hv
   ·rename_i ad l cp e hx ht;simp at hv;subst hv;obtain⟨callee,args,argTypes⟩:=c;simp only at hc hx ht;subst hc;have h1:=gA hg hT hx;cases hr:argTypes[0]? with
    |none=>simp [hr] at ht
    |some t0=>
     simp only [hr,Option.bind_some] at ht
     generalize hm:args.toList.map a.eval=m at h1
     cases h1 with
     |cons k1 k2=>
      cases k2
      obtain⟨a0,c',rfl⟩:=k1.slice_sh
      have a1:args.map a.eval= #[.slice (some a0) l c']:=by apply Array.ext';simpa using hm
      refine⟨.int .i64 l,?_,.leaf rfl⟩
      simp [execOp,resolve,invoke,builtin,a1,Builtin.len_,hr,aN t0 ht,goInt]
   ·simp at hv
  ·split at h
   ·split at h
    ·rename_i g _ _ _;cases hb:fI P g<;>simp only [hb,cond_true,cond_false] at h
     ·exact lR hg hT (by simp) h
     ·cases h
    ·cases h
   ·cases h
  ·cases h
  ·cases h
  ·cases h
  ·rename_i hc;refine oG hg hT (by simp) h fun v hv=>?_
   split at hv
   ·rename_i ad l cp hx;cases hz:Nat.beq l 0<;>simp only [hz,cond_true,cond_false] at hv
    ·simp at hv;subst hv;obtain⟨callee,args,argTypes⟩:=c;simp only at hc hx;subst hc;have h1:=gA hg hT hx;generalize hm:args.toList.map a.eval=m at h1;cases h1 with
     |cons k1 k2=>
      cases k2
      rcases k1.slice_or with⟨a0,c',rfl,s1,s2,s3,s4,e,s5,s6⟩|⟨_,_,a4,_,_⟩
      case inr=>rw[a4] at hz;exact absurd hz (by decide)
      have a1:args.map a.eval= #[.slice (some a0) l c']:=by apply Array.ext';simpa using hm
      have hl:l≠0:=fun h0=>by rw[h0] at hz;exact absurd hz (by decide)
      have a2:c'≠0:=by omega
      obtain⟨t1,t2,_⟩:=s6.resolve_left a2
      refine⟨.pointer (some a0),?_,.ptr ⟨s1,s2,e,s5,t1,t2⟩⟩
      have:=Go.Lib.run_unsafeSliceData_row (P:=P) w argTypes type a0 l c' a2
      simp [execOp,resolve,invoke,builtin,a1,this]
    ·cases hv
   ·cases hv
  ·exact lR hg hT (by simp) h
 case h_16 x _ _ _=>
  subst hop
  split at h
  ·exact lR hg hT (by simp) h
  ·cases h
 case h_17 dst x=>
  subst hop
  split at h
  ·cases h
  ·split at h
   ·cases h
   ·exact lR hg hT (by simp) h
 all_goals first
  |(cases h;done)
  |exact lR hg hT (by intro cs b e;simp only at e;subst e;simp_all) h
end Go.Am
