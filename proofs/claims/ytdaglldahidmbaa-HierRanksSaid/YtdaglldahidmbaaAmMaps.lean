/-
  Package hier: each of its laws for every argument; no conditions. The last text states which.
-/
import Derived.Test.YtdaglldahidmbaaAmOps5
set_option linter.unusedVariables false
set_option linter.unusedSimpArgs false
namespace Go.Am
open Go
variable{P:Program}{GL:List Nat}{B:Bd}{φ:dC}{M M':aA}{w:World}
theorem Eg{a b:Value}(h:Fz a b=true):a=b:=by
 cases a<;>cases b<;>simp_all [Fz]
theorem Ao: ∀{l m:List Value},sS l m=true->l=m
 | [],[],_=>rfl
 | [],_::_,h=>by simp [sS] at h
 |_::_,[],h=>by simp [sS] at h
 |a::l,b::m,h=>by
  simp only [sS,Bool.and_eq_true] at h
  rw[Eg h.1,Ao h.2]
theorem Bn{a b:Value}(h:nZ a b=true):a=b:=by
 unfold nZ at h
 split at h
 ·rw[Ao h]
 ·exact Eg h
theorem Qf{k:TypeId}(h:Lj P k=true):Go.Maps.Keyed P k:=by
 unfold Lj at h
 split at h
 ·rename_i hu
  simp only [Bool.and_eq_true] at h
  exact .of_law (deep_law (m:=5) (by decide) h.1 h.2 (by rw[hu]))
 ·rename_i hu
  simp only [Bool.and_eq_true] at h
  exact .of_law (deep_law (m:=5) (by decide) h.1 h.2 (by rw[hu]))
 ·rename_i hu;exact Go.Maps.int_keyed hu
 ·rename_i hu;exact Go.Maps.string_keyed hu
 ·rename_i hu;exact Go.Maps.bool_keyed hu
 ·cases h
structure Zj(P:Program)(k:TypeId)(key:Value):Prop where
 law:Go.Maps.Keyed P k
 is: ∃l,keyOf P k key=some l
 flat:flat key=true
 self:nZ key key=true
theorem Bo{k:TypeId}{key:Value}(h:En P k key=true):Zj P k key:=by
 unfold En at h
 simp only [Bool.and_eq_true] at h
 obtain⟨⟨⟨h1,h2⟩,h3⟩,h4⟩:=h
 exact⟨Qf h1,Option.isSome_iff_exists.1 h2,h3,h4⟩
theorem uY{key v:Value}: ∀{l:List Value} {es:List MapEntry},uA φ l es->wC key l=some v-> ∃(i:Nat) (e:MapEntry),es[i]?=some e/\e.key=key/\bA φ v e.val
 |_,_,.nil,h=>by simp [wC] at h
 |_,_,.cons (e:=e) hv hl,h=>by
  simp only [wC] at h
  cases hk:nZ key e.key<;>simp only [hk,cond_true,cond_false] at h
  ·obtain⟨i,e',h1,h2,h3⟩:=uY hl h
   exact⟨i+1,e',by simpa using h1,h2,h3⟩
  ·simp at h;subst h
   exact⟨0,e,rfl,(Bn hk).symm,hv⟩
theorem Bv{key:Value}(hs:nZ key key=true): ∀{l:List Value} {es:List MapEntry},uA φ l es->wC key l=none-> ∀e:MapEntry,e∈es->e.key≠key
 |_,_,.nil,_,e,he=>by cases he
 |_,_,.cons (e:=e0) hv hl,h,e,he=>by
  simp only [wC] at h
  cases hk:nZ key e0.key<;>simp only [hk,cond_true,cond_false] at h
  ·rcases List.mem_cons.1 he with rfl|he
   ·intro hx
    rw[hx,hs] at hk;cases hk
   ·exact Bv hs hl h e he
  ·cases h
theorem Jb{key v v':Value}(hv':bA φ v v'): ∀{l:List Value} {es:List MapEntry},uA φ l es->(es.map (fun x:MapEntry=>x.key)).Nodup-> ∀{j:Nat} {e0:MapEntry},nZ key key=true->es[j]?=some e0->e0.key=key->
  uA φ (Gl key v l) (es.modify j fun e=>{e with key:=key,val:=v'})
 |_,_,.nil,_,j,e0,_,h,_=>by simp at h
 |_,_,.cons (e:=e) (es:=es) hv hl,hn,j,e0,hs,h,hk=>by
  simp only [List.map_cons,List.nodup_cons] at hn
  cases j with
  |zero=>
   simp at h;subst h
   have:nZ key e.key=true:=by rw[hk];exact hs
   simp only [Gl,this,cond_true,List.modify_zero_cons]
   have:=uA.cons (φ:=φ) (e:={e with key:=key,val:=v'}) hv' hl
   rw[hk]
   exact this
  |succ j=>
   simp at h
   have hne:nZ key e.key=false:=by
    cases hq:nZ key e.key with
    |false=>rfl
    |true=>
     refine absurd ?_ hn.1
     rw[<-Bn hq,<-hk]
     exact List.mem_map_of_mem (List.mem_of_getElem? h)
   simp only [Gl,hne,cond_false,List.modify_succ_cons]
   exact .cons hv (Jb hv' hl hn.2 hs h hk)
theorem Ja{key v v':Value}{n:Nat}(hv':bA φ v v'): ∀{l:List Value} {es:List MapEntry},uA φ l es->(∀e∈es,e.key≠key)->uA φ (Gl key v l) (es++ [⟨key,v',n⟩])
 |_,_,.nil,_=> .cons (e:=⟨key,v',n⟩) hv' .nil
 |_,_,.cons (e:=e) hv hl,h=>by
  have hne:nZ key e.key=false:=by
   cases hq:nZ key e.key with
   |false=>rfl
   |true=>exact absurd (Bn hq).symm (h e (by simp))
  simp only [Gl,hne,cond_false,List.cons_append]
  exact .cons hv (Ja hv' hl fun x hx=>h x (by simp [hx]))
theorem Hc{t:TypeId}{z:Value}(h:Cz P t=some z):(zeroValue t).run P w= .ok z w/\flat z=true:=by
 unfold Cz at h
 split at h
 ·rename_i i hi
  split at h
  ·rename_i z' hz
   cases hf:flat z'<;>simp only [hf,cond_true,cond_false] at h
   ·cases h
   ·cases h;exact⟨dQ t hi hz,hf⟩
  ·cases h
 ·cases h
theorem Nl{es:List MapEntry}(hn:(es.map (·.key)).Nodup){i j:Nat}{a b:MapEntry}(ha:es[i]?=some a)(hb:es[j]?=some b)(h:a.key=b.key):i=j:=by
 have h1:(es.map (·.key))[i]?=some a.key:=by simp [ha]
 have h2:(es.map (·.key))[j]?=some a.key:=by simp [hb,h]
 have hi:i<(es.map (·.key)).length:=by
  rcases Nat.lt_or_ge i (es.map (·.key)).length with q|q
  ·exact q
  ·rw[List.getElem?_eq_none q] at h1;cases h1
 exact(List.getElem?_inj hi hn).1 (h1.trans h2.symm)
theorem Gi(h:gI P GL B φ M w){t:TypeId}{x x' key key':Value}{ok:Bool}(hx:bA φ x x')(hk:bA φ key key'){k:Nat}{r:AR}(ho:zQ P t x key ok M=some (k,r,M')):
  k=1/\fV P GL B φ M M' w r ((do pure (.value (<-Instr.lookup t x' key' ok)):Sem Next).run P w):=by
 unfold zQ at ho
 split at ho
 ·rename_i kt et rr hu
  obtain⟨e,he,hm,rfl⟩:=hx.map_inv
  split at ho
  ·rename_i b z hb hz
   cases hq:(Nat.beq b.elem kt&&En P kt key)<;>simp only [hq,cond_true,cond_false] at ho
   ·cases ho
   ·simp only [Bool.and_eq_true,Nat.beq_eq] at hq
    obtain⟨hbe,hko⟩:=hq
    have K:=Bo hko
    obtain⟨lk,hlk⟩:=K.is
    obtain rfl:key'=key:=hk.of_flat K.flat
    obtain⟨e',he',hr⟩:=h.blkA _ _ (xM.1 hb).1
    rw[he] at he';cases he'
    have hM:=hr.map hm
    obtain⟨es,ck,c1,c2,c3,c4⟩:=hM.lies
    rw[hbe] at c4
    obtain⟨a1,a0⟩:=Hc (w:=w) hz
    rcases K.law.find w hlk es.toList c4 with⟨h1,h2⟩|⟨j,e0,h1,h2,h3⟩
    ·cases hf:wC key' b.cs with
     |some v=>
      obtain⟨i,e1,g1,g2,_⟩:=uY c2 hf
      exact absurd g2 (h2 e1 (List.mem_of_getElem? g1))
     |none=>
      rw[hf] at ho
      simp at ho
      obtain⟨rfl,rfl,rfl⟩:=ho
      refine⟨rfl,fV.val (L:= []) (v':=if ok then .tuple #[z,.bool false] else z) ?_ rfl (Post.refl h) ?_⟩
      ·simp [Instr.lookup,run_underlying hu,MapKept.run_getObj_map c1,K.law.check w _ hlk,h1,a1,Result.andThen]
      ·cases ok
       ·exact bA.refl_flat φ z a0
       ·exact .tuple (.cons (bA.refl_flat φ z a0) (.cons (.leaf rfl) .nil))
    ·cases hf:wC key' b.cs with
     |none=>exact absurd h3 (Bv K.self c2 hf e0 (List.mem_of_getElem? h2))
     |some v=>
      obtain⟨i,e1,g1,g2,g3⟩:=uY c2 hf
      obtain rfl:=Nl c3 g1 h2 (g2.trans h3.symm)
      rw[h2] at g1;cases g1
      rw[hf] at ho
      simp at ho
      obtain⟨rfl,rfl,rfl⟩:=ho
      refine⟨rfl,fV.val (L:= []) (v':=if ok then .tuple #[e0.val,.bool true] else e0.val) ?_ rfl (Post.refl h) ?_⟩
      ·simp [Instr.lookup,run_underlying hu,MapKept.run_getObj_map c1,K.law.check w _ hlk,h1,Result.andThen]
      ·cases ok
       ·exact g3
       ·exact .tuple (.cons g3 (.cons (.leaf rfl) .nil))
  ·cases ho
 ·cases ho
theorem gI.allocU(h:gI P GL B φ M w)(hg:φ M.next=none)(b:aW)(o:Obj)(ne:oO)(hne:ne.block=w.heap.size){w1:World}(hs:mL w w1)(hU: ∀φ':dC,φ.le φ'->oP P B φ' (w1.alloc o) ne b):
  ∃φ',φ' M.next=some ne/\Post P GL B φ φ' M (M.alloc b) [] w (w1.alloc o):=by
 have hold: ∀k,k<w.heap.size->(w1.alloc o).heap[k]?=w.heap[k]?:=fun k hk=>by
  rw[heap_alloc_old _ _ (by rw[hs.heap];exact hk),hs.heap]
 refine⟨fun id=>if id=M.next then some ne else φ id,by simp,?_⟩
 have hle:φ.le (fun id=>if id=M.next then some ne else φ id):=fun id e he=>by
  have:id≠M.next:=fun x=>by rw[x,hg] at he;cases he
  simp [this,he]
 refine⟨fun id hi=> ?_,Nat.le_succ _,⟨fun id b' hb=> ?_,fun a4 a5 b1 b2 e1 e2 hne a2 a3 ho a0 a1=> ?_,fun g hgl=> ?_,?_,fun id b' hb=> ?_,fun x hx=>(h.rnd x hx).step hle (hold _ (h.rnd x hx).lt)⟩,⟨hs.os,hs.tape,hs.output,?_,fun k hk=> .inl (hold k hk)⟩,fun id e h1 h2 he=> ?_,fun t ht=>by cases ht⟩
 ·have:id≠M.next:=by
   rcases hi with hi|hi
   ·omega
   ·have:M.next+1<=id:=hi
    omega
  simp [this]
 ·rw[iV] at hb
  by_cases hid:id=M.next
  ·subst hid
   simp only [if_true] at hb
   cases hh:aZ M.hide M.next<;>simp only [hh,cond_true,cond_false] at hb
   ·simp at hb;subst hb
    exact⟨_,by simp,hU _ hle⟩
   ·cases hb
  ·rw[if_neg hid] at hb
   obtain⟨e,he,hr⟩:=h.blkA id b' hb
   exact⟨e,hle _ _ he,hr.keep hle (hold _ hr.lt)⟩
 ·rw[iV] at a2 a3
  have bound: ∀id b' e,id≠M.next->M.getA id=some b'->φ id=some e->e.block<w.heap.size:=fun id b' e hn hb' he=>by
   obtain⟨e',he',hr⟩:=h.blkA id b' hb'
   rw[he] at he';cases he';exact hr.lt
  by_cases i1:a4=M.next<;>by_cases i2:a5=M.next
  ·omega
  ·simp only [i1,if_true] at a0
   simp only [i2,if_false] at a1 a3
   cases a0
   have:=bound a5 b2 e2 i2 a3 a1
   exact .inl (by omega)
  ·simp only [i2,if_true] at a1
   simp only [i1,if_false] at a0 a2
   cases a1
   have:=bound a4 b1 e1 i1 a2 a0
   exact .inl (by omega)
  ·simp only [i1,i2,if_false] at a0 a1 a2 a3
   exact h.sepA a4 a5 b1 b2 e1 e2 hne a2 a3 ho a0 a1
 ·obtain⟨h1,e,he,h2⟩:=h.glob g hgl
  exact⟨Nat.lt_succ_of_lt h1,e,hle _ _ he,h2⟩
 ·intro k hk;refine h.size k ?_;simp [hs.heap] at hk;omega
 ·rw[iV] at hb
  show id<M.next+1
  by_cases hid:id=M.next
  ·omega
  ·rw[if_neg hid] at hb
   have:=h.idsA id b' hb
   omega
 ·simp [hs.heap]
 ·have:id=M.next:=by have:id<M.next+1:=h2;omega
  simp only [this,if_true] at he
  cases he
  exact .inl (by omega)
theorem Qe{hint:Option Value}(h:Qd hint=true): ∀v,hint=some v-> ∃k n,v= .int k n:=fun v hv=>by
 subst hv
 cases v<;>first|exact⟨_,_,rfl⟩|(simp [Qd] at h)
theorem Dq(h:gI P GL B φ M w)(hg:iX φ M M'){t:TypeId}{hint:Option Value}{hint':Option Value}(hh:rL φ hint hint'){k:Nat}{r:AR}(ho:vM P t hint M=some (k,r,M')):
  k=1/\fV P GL B φ M M' w r ((do pure (.value (<-Instr.makeMap t hint')):Sem Next).run P w):=by
 unfold vM at ho
 split at ho
 ·rename_i kt et hu
  cases hq:Qd hint<;>simp only [hq,cond_true,cond_false] at ho
  ·cases ho
  ·simp at ho
   obtain⟨rfl,rfl,rfl⟩:=ho
   obtain⟨φ',h1,h2⟩:=h.allocU (hg _ (Nat.le_refl _) (Nat.lt_succ_self _)) ⟨[],kt,oB,0,true⟩ (.map #[] 0) ⟨w.heap.size,1,0,oB⟩ rfl (mL.refl w) (fun φ' hle=> .inr ⟨⟨rfl,rfl,rfl⟩,rfl,
    ⟨#[],0,heap_alloc_new _ _,.nil,by simp,by simp⟩,h.size _ (Nat.le_refl _),rfl,rfl⟩)
   refine⟨rfl,fV.val (L:= []) (v':= .map (some w.heap.size)) ?_ rfl h2 (.map h1 ⟨rfl,rfl,rfl⟩)⟩
   cases hh with
   |none=>simp [Instr.makeMap]
   |some hv=>
    obtain⟨k',n',rfl⟩:=Qe hq _ rfl
    cases hv.int_inv
    simp [Instr.makeMap,run_underlying hu,asInt,asIntOf]
 ·cases ho
theorem gI.putU(h:gI P GL B φ M w){id:Nat}{b:aW}(hb:M.getA id=some b){e:oO}(he:φ id=some e)(happ:b.app=true)(hwf:b.wf=0)(b':aW)(_:b'.app=true)(_:b'.wf=0)(o:Obj)
  (hr:oP P B φ w e b) (hU:oP P B φ (eA w e.block o) e b'):Post P GL B φ φ M (M.put id (some b')) [id] w (eA w e.block o):=by
 have hlt:=hr.lt
 have hown:b.app=true\/b.wf<b.cs.length:= .inl happ
 have hBe:=hr.own hown
 have hheap: ∀j,(eA w e.block o).heap[j]?=if e.block=j then some o else w.heap[j]?:=fun j=>by
  rw[mN,if_pos hlt]
 refine⟨fun _ _=>rfl,Nat.le_refl _,⟨fun id' b1 hb'=> ?_,fun a4 a5 b1 b2 e1 e2 hne a1 a0 ho a2 a3=> ?_,h.glob,?_,fun id' b1 hb'=> ?_,fun x hx=>(h.rnd x hx).step (dC.le_refl _) (by rw[hheap,if_neg ((h.rnd x hx).neU hr)])⟩,⟨rfl,rfl,rfl,by simp [eA],fun j hj=> ?_⟩,fun i e h1 h2=>(by have:i<M.next:=h2;omega),fun t ht=>by simp at ht;subst ht;exact h.idsA _ _ hb⟩
 ·rw[iK,eN hb] at hb'
  by_cases hid:id'=id
  ·simp [hid] at hb'
   subst hb';subst hid
   exact⟨e,he,hU⟩
  ·rw[if_neg hid] at hb'
   obtain⟨e',he',hr'⟩:=h.blkA id' b1 hb'
   have hs:=(h.sepA id id' b b1 e e' (fun x=>hid x.symm) hb hb' hown he he').ne0 hwf
   exact⟨e',he',hr'.keep (dC.le_refl φ) (by rw[hheap,if_neg hs])⟩
 ·rw[iK,eN hb] at a1 a0
  by_cases i1:a4=id
  ·subst i1
   rw[he] at a2;cases a2
   rw[if_neg (fun x=>hne x.symm)] at a0
   exact .inl ((h.sepA a4 a5 b b2 e e2 hne hb a0 hown he a3).ne0 hwf)
  ·rw[if_neg i1] at a1
   by_cases i2:a5=id
   ·subst i2
    rw[he] at a3;cases a3
    exact .inl ((h.sepA a4 a5 b1 b e1 e hne a1 hb ho a2 he).ne hown)
   ·rw[if_neg i2] at a0
    exact h.sepA a4 a5 b1 b2 e1 e2 hne a1 a0 ho a2 a3
 ·simp [eA];exact h.size
 ·rw[iK,eN hb] at hb'
  show id'<M.next
  by_cases hi:id'=id
  ·rw[hi];exact h.idsA id b hb
  ·rw[if_neg hi] at hb';exact h.idsA _ _ hb'
 ·by_cases hje:e.block=j
  ·exact .inr ⟨hje▸hBe,id,by simp,e,he,hje⟩
  ·left;rw[hheap,if_neg hje]
theorem zL(h:gI P GL B φ M w){t:TypeId}{x x' key key' v v':Value}(hx:bA φ x x')(hk:bA φ key key')(hv:bA φ v v'){k:Nat}{r:AR}(ho:qN P t x key v M=some (k,r,M')):
  k=2/\fV P GL B φ M M' w r ((do Instr.mapUpdate t x' key' v';pure .skip:Sem Next).run P w):=by
 unfold qN at ho
 split at ho
 ·rename_i kt et rr hu
  obtain⟨e,he,hm,rfl⟩:=hx.map_inv
  split at ho
  ·rename_i b hb
   cases hq:(Nat.beq b.elem kt&&En P kt key)<;>simp only [hq,cond_true,cond_false] at ho
   ·cases ho
   ·simp at ho
    obtain⟨rfl,rfl,rfl⟩:=ho
    simp only [Bool.and_eq_true,Nat.beq_eq] at hq
    obtain⟨hbe,hko⟩:=hq
    have K:=Bo hko
    obtain⟨lk,hlk⟩:=K.is
    obtain rfl:key'=key:=hk.of_flat K.flat
    obtain⟨hbA,hbM⟩:=xM.1 hb
    obtain⟨e',he',hr⟩:=h.blkA _ _ hbA
    rw[he] at he';cases he'
    have hM:=hr.map hm
    obtain⟨es,ck,c1,c2,c3,c4⟩:=hM.lies
    have hlt:=hr.lt
    rw[hbe] at c4
    have hset: ∀o,({w with heap:=w.heap.setIfInBounds e.block o}:World)=eA w e.block o:=fun o=>rfl
    have hnew: ∀o,(eA w e.block o).heap[e.block]?=some o:=fun o=>by rw[mN,if_pos rfl,if_pos hlt]
    rcases K.law.find w hlk es.toList c4 with⟨h1,h2⟩|⟨j,e0,h1,h2,h3⟩
    ·have hrun:(Instr.mapUpdate t (.map (some e.block)) key' v').run P w= .ok () (eA w e.block (.map (es.push ⟨key',v',ck⟩) (ck+1))):=by
      simp [Instr.mapUpdate,run_underlying hu,MapKept.run_getObj_map c1,K.law.check w false hlk,h1,MapKept.run_setObj_map _ c1,Result.andThen,eA]
     refine⟨rfl,fV.skip (L:= [rr]) hrun rfl (h.putU hbA he hM.app hM.wf {b with cs:=Gl key' v b.cs} hM.app hM.wf _ hr (.inr ⟨hm,hbM,⟨es.push ⟨key',v',ck⟩,ck+1,hnew _,?_,?_,?_⟩,hM.own,hM.app,hM.wf⟩))⟩
     ·rw[Array.toList_push]
      exact Ja hv c2 h2
     ·rw[Array.toList_push,List.map_append,List.nodup_append]
      refine⟨c3,by simp,fun a ha b hb'=> ?_⟩
      simp only [List.map_cons,List.map_nil,List.mem_singleton] at hb'
      obtain⟨x,a0,rfl⟩:=List.mem_map.1 ha
      rw[hb']
      exact h2 x a0
     ·intro x a0
      show∃l,keyOf P b.elem x.key=some l
      rw[hbe]
      rw[Array.toList_push] at a0
      rcases List.mem_append.1 a0 with a0|a0
      ·exact c4 x a0
      ·simp only [List.mem_singleton] at a0
       subst a0
       exact⟨lk,hlk⟩
    ·have hj:es[j]?=some e0:=by simpa using h2
     have hst:(Instr.keyThatStays key' key').run P w= .ok key' w:=K.law.stays w hlk
     have hrun:(Instr.mapUpdate t (.map (some e.block)) key' v').run P w= .ok () (eA w e.block (.map (es.modify j fun e=>{e with key:=key',val:=v'}) ck)):=by
      simp [Instr.mapUpdate,run_underlying hu,MapKept.run_getObj_map c1,K.law.check w false hlk,h1,hj,h3,hst,MapKept.run_setObj_map _ c1,Result.andThen,eA]
     have htl:(es.modify j fun e=>{e with key:=key',val:=v'}).toList=es.toList.modify j fun e=>{e with key:=key',val:=v'}:=by simp
     refine⟨rfl,fV.skip (L:= [rr]) hrun rfl (h.putU hbA he hM.app hM.wf {b with cs:=Gl key' v b.cs} hM.app hM.wf _ hr (.inr ⟨hm,hbM,⟨es.modify j fun e=>{e with key:=key',val:=v'},ck,hnew _,?_,?_,?_⟩,hM.own,hM.app,hM.wf⟩))⟩
     ·rw[htl]
      exact Jb hv c2 c3 K.self h2 h3
     ·rw[htl]
      have hkeys:(es.toList.modify j fun e=>{e with key:=key',val:=v'}).map (·.key)=es.toList.map (·.key):=by
       apply List.ext_getElem?
       intro i
       rw[List.getElem?_map,List.getElem?_modify,List.getElem?_map]
       by_cases hij:j=i
       ·subst hij
        rw[h2];simp [h3]
       ·cases hq:es.toList[i]?<;>simp [hij]
      rw[hkeys];exact c3
     ·intro x a0
      show∃l,keyOf P b.elem x.key=some l
      rw[hbe]
      rw[htl] at a0
      obtain⟨i,hi⟩:=List.mem_iff_getElem?.1 a0
      rw[List.getElem?_modify] at hi
      cases hq:es.toList[i]? with
      |none=>rw[hq] at hi;simp at hi
      |some y=>
       rw[hq] at hi
       by_cases hij:j=i
       ·simp [hij] at hi;subst hi;exact⟨lk,hlk⟩
       ·simp [hij] at hi;subst hi;exact c4 _ (List.mem_of_getElem? hq)
  ·cases ho
 ·cases ho
end Go.Am
