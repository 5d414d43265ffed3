/-
  Package hier: each of its laws for every argument; no conditions. The last text states which.
-/
import Derived.Test.YtdaglldahidmbaaGreatAmMem
set_option linter.unusedVariables false
set_option linter.unusedSimpArgs false
noncomputable section
namespace Go.Am
open Go
variable{P:Program}{GL:List Nat}{B:Bd}{φ:dX}{M M':aB}{w:World}
inductive Xy(φ:dX):AR->Next->Prop where
 |val {v v':Value} (h:bH φ v v'):Xy φ (.val v) (.value v')
 |skip:Xy φ .skip .skip
def gN(P:Program)(GL:List Nat)(B:Bd)(φ:dX)(M M':aB)(w:World)(r:AR)(res:Result Next):Prop:=
 ∃L φ' w' nx,res= .ok nx w'/\M'.log=L++M.log/\Post P GL B φ φ' M M' L w w'/\Xy φ' r nx
theorem gN.val{s:Sem Value}{L:List Nat}{φ':dX}{w':World}{v v':Value}(h:s.run P w= .ok v' w')(hl:M'.log=L++M.log)(hp:Post P GL B φ φ' M M' L w w')(hv:bH φ' v v'):
  gN P GL B φ M M' w (.val v) ((do pure (.value (<-s)):Sem Next).run P w):=
 ⟨L,φ',w',.value v',by simp [h],hl,hp,.val hv⟩
theorem gN.skip{s:Sem Unit}{L:List Nat}{φ':dX}{w':World}(h:s.run P w= .ok () w')(hl:M'.log=L++M.log)(hp:Post P GL B φ φ' M M' L w w'):
  gN P GL B φ M M' w .skip ((do s;pure .skip:Sem Next).run P w):=
 ⟨L,φ',w',.skip,by simp [h],hl,hp,.skip⟩
theorem cE.getA{l:List Value}{c:Array Value}(h:cE φ l c.toList)(j:Nat)(v:Value)(hj:l[j]?=some v):∃v',c[j]?=some v'/\bH φ v v':=by obtain⟨v',h1,h2⟩:=h.get hj;exact⟨v',by simpa using h1,h2⟩
theorem wT(elem:TypeId)(c:Array Value):(newRow elem c).run P w= .ok ⟨w.heap.size,0,none⟩ (w.alloc (.cells c elem (0,0))):=by simp [newRow]
theorem xR(h:hI P GL B φ M w)(hg:φ M.next=none){z:Nat}{elem:TypeId}{v v':Value}(hv:bH φ v v'):
  ∃φ',φ' M.next=some ⟨w.heap.size,0,v'.cells.size,z⟩/\(newVar elem v').run P w= .ok ⟨w.heap.size,0,none⟩ (w.alloc (.cells v'.cells elem (0,0)))/\
   Post P GL B φ φ' M (nT z elem v.cells.toList M) [] w (w.alloc (.cells v'.cells elem (0,0))):=by
 obtain⟨φ',h1,h2⟩:=h.alloc hg {cs:=v.cells.toList,elem,esz:=z,wf:=0,app:=true} v'.cells 0 0 (nJ.refl w)
  (by have:=hv.cells.length;simp at this⊢;omega) (fun j u hj=>hv.cells.getA j u hj) (fun j _ _=>by omega)
 exact⟨φ',h1,wT elem _,h2⟩
theorem Jl(h:hI P GL B φ M w)(hg:jP φ M M'){elem:TypeId}{k:Nat}{r:AR}(ho:cQ P elem M=some (k,r,M')):
  k=1/\gN P GL B φ M M' w r ((do pure (.value (<-Instr.alloc elem true (.tuple #[]))):Sem Next).run P w):=by
 unfold cQ at ho
 split at ho
 ·rename_i i z hi hz;split at ho
  ·rename_i v hzero;cases hf:(flat v&&v.cells.toList.all isCell)<;>simp only [hf,cond_true,cond_false] at ho
   ·simp at ho
   ·simp [made] at ho;obtain⟨rfl,rfl,rfl⟩:=ho;simp only [Bool.and_eq_true] at hf;obtain⟨φ',h1,h2,h3⟩:=xR (z:=z) (elem:=elem) h (hg _ (Nat.le_refl _) (Nat.lt_succ_self _)) (bH.refl_flat φ v hf.1);refine⟨rfl,gN.val (L:=[]) (v':= .pointer (some ⟨w.heap.size,0,none⟩)) ?_ rfl h3 (.ptr ⟨rfl,rfl,_,h1,rfl,by simp⟩)⟩;simp [Instr.alloc,eE elem hi hzero,h2]
  ·simp at ho
 ·simp at ho
theorem Pw(h:hI P GL B φ M w)(hg:jP φ M M'){elem:TypeId}{k:Nat}{r:AR}{v v':Value}(hv:bH φ v v')(ho:fE P elem v M=some (k,r,M')):
  k=1/\gN P GL B φ M M' w r ((do pure (.value (<-Instr.box elem v')):Sem Next).run P w):=by
 unfold fE at ho
 split at ho
 ·rename_i z hz;cases hf:v.cells.toList.all isCell<;>simp only [hf,cond_true,cond_false] at ho
  ·simp at ho
  ·simp [made] at ho;obtain⟨rfl,rfl,rfl⟩:=ho;obtain⟨φ',h1,h2,h3⟩:=xR (z:=z) (elem:=elem) h (hg _ (Nat.le_refl _) (Nat.lt_succ_self _)) hv;refine⟨rfl,gN.val (L:=[]) (v':= .pointer (some ⟨w.heap.size,0,none⟩)) ?_ rfl h3 (.ptr ⟨rfl,rfl,_,h1,rfl,by simp⟩)⟩;simp [Instr.box,h2]
 ·simp at ho
theorem uU(h:hI P GL B φ M w)(hg:φ M.next=none){z:Nat}{elem:TypeId}{cs:List Value}{c:Array Value}{w1:World}(hs:nJ w w1){len cap cap':Nat}
  (a2:∀(j:Nat) (v:Value),cs[j]?=some v->∃v',c[j]?=some v'/\bH φ v v') (a1:cs.length<=c.size) (hl:len<=cap') (a0:cap=len\/cap=cap'+1) (ht:cap'*z<=c.size):
  ∃φ',Post P GL B φ φ' M (nT z elem cs M) [] w (w1.alloc (.cells c elem (0,0)))/\(newRow elem c).run P w1= .ok ⟨w.heap.size,0,none⟩ (w1.alloc (.cells c elem (0,0)))/\
   bH φ' (.slice (some ⟨M.next,0,none⟩) len cap) (.slice (some ⟨w.heap.size,0,none⟩) len cap'):=by
 obtain⟨φ',h1,h2⟩:=h.alloc hg {cs,elem,esz:=z,wf:=0,app:=true} c 0 0 hs a1 a2 (fun j _ _=>by omega)
 refine⟨φ',h2,by rw[wT,hs.heap],.slice ⟨rfl,rfl,hl,a0,_,h1,.inr ⟨rfl,by simp,by simpa using ht⟩⟩⟩
theorem Ll:∀(n:Nat) (Z:List Value) (j:Nat),0<Z.length->(kQ n Z)[j]?=if j<n*Z.length then Z[j%Z.length]? else none
 |0,Z,j,_=>by simp [kQ]
 |n+1,Z,j,hz=>by
  simp only [kQ,List.getElem?_append];by_cases hj:j<Z.length
  ·rw[if_pos hj,if_pos (by rw[Nat.succ_mul];omega),Nat.mod_eq_of_lt hj]
  ·rw[if_neg hj,Ll n Z _ hz];have:(j-Z.length)%Z.length=j%Z.length:=by
    rw[<-Nat.mod_eq_sub_mod (by omega)]
   rw[this];by_cases hk:j-Z.length<n*Z.length
   ·rw[if_pos hk,if_pos (by rw[Nat.succ_mul];omega)]
   ·rw[if_neg hk,if_neg (by rw[Nat.succ_mul];omega)]
theorem nS:∀(n:Nat) (Z:List Value),(kQ n Z).length=n*Z.length
 |0,Z=>by simp [kQ]
 |n+1,Z=>by simp [kQ,nS n Z,Nat.succ_mul];omega
theorem pK(n:Nat)(zero:Array Value)(hz:0<zero.size):((Array.range (n*zero.size)).map fun i=>zero[i%zero.size]!)=(kQ n zero.toList).toArray:=by
 apply Array.ext_getElem?;intro j;have:=Ll n zero.toList j (by simpa using hz);simp only [List.getElem?_toArray,this,Array.length_toList];by_cases hj:j<n*zero.size
 ·have hm:j%zero.size<zero.size:=Nat.mod_lt _ hz;simp [hj,hm]
 ·simp [hj]
theorem wJ{v:Value}(h:flat v=true):dU v.cells.toList=true:=by cases v<;>simp_all [Value.cells,flat,dU];rename_i cs;cases cs;simpa [nZ] using h
theorem Ea(φ:dX){Z:List Value}(hf:dU Z=true)(n:Nat):cE φ (kQ n Z) (kQ n Z):=by
 induction n with
 |zero=>exact .nil
 |succ n ih=>exact(cE.refl_flat φ Z hf).append ih
theorem Lk(Z:List Value):∀(m n:Nat),kQ (m+n) Z=kQ m Z++kQ n Z
 |0,n=>by simp [kQ]
 |m+1,n=>by rw[Nat.succ_add];simp [kQ,Lk Z m n]
theorem fU{i:Int}(h0:0<=i)(h1:i<2^40):IntKind.i64.wrap i=i:=by simp [IntKind.wrap,IntKind.bits,IntKind.signed];omega
theorem Be(h:hI P GL B φ M w)(hg:jP φ M M'){t:TypeId}{l l' c c':Value}(hl:bH φ l l')(hc:bH φ c c'){k:Nat}{r:AR}(ho:bR P t l c M=some (k,r,M')):
  k=1/\gN P GL B φ M M' w r ((do pure (.value (<-Instr.makeSlice t l' c')):Sem Next).run P w):=by
 unfold bR at ho
 split at ho
 ·rename_i elem k1 li k2 ci ht;cases hl.int_inv;cases hc.int_inv;split at ho
  ·rename_i e he;split at ho
   ·rename_i z hz;generalize hb:(flat z&&z.cells.toList.all isCell&&Nat.beq z.cells.toList.length e.size&& !Nat.beq e.size 0&&decide (0<=li)&&decide (li<=ci)&&decide (ci<2^37)&&Nat.ble e.bytes 1024)=b at ho;cases b<;>simp only [cond_true,cond_false] at ho
    ·simp at ho
    ·simp [made] at ho;obtain⟨rfl,rfl,rfl⟩:=ho;simp only [Bool.and_eq_true,decide_eq_true_eq,Nat.beq_eq,Bool.not_eq_true',Nat.ble_eq,Array.length_toList] at hb;obtain⟨⟨⟨⟨⟨⟨⟨h1,h2⟩,h3⟩,h4⟩,h5⟩,h6⟩,h7⟩,h8⟩:=hb;have a6:e.size≠0:=by intro x;rw[x] at h4;simp at h4
     have a7:IntKind.i64.wrap ci=ci:=fU (by omega) (by omega);have a8:IntKind.i64.wrap li=li:=fU (by omega) (by omega);have a3:0<z.cells.size:=by omega
     have hbig:(e.bytes:Int)*ci<=2^48:=by
      have h9:(e.bytes:Int)<=1024:=by omega
      calc (e.bytes:Int)*ci<=1024*ci:=Int.mul_le_mul_of_nonneg_right h9 (by omega)
       _<=2^48:=by omega
     have a9:=wJ h1;obtain⟨φ',p1,p2,p3⟩:=uU (z:=e.size) (elem:=elem) (cs:=kQ li.toNat z.cells.toList) (c:=(kQ ci.toNat z.cells.toList).toArray) (len:=li.toNat) (cap':=ci.toNat)
      (cap:=bif decide (li=ci) then li.toNat+1 else li.toNat) h (hg _ (Nat.le_refl _) (Nat.lt_succ_self _)) (nJ.refl w)
      (fun j v hj=>by
       have e1:kQ ci.toNat z.cells.toList=kQ li.toNat z.cells.toList++kQ (ci.toNat-li.toNat) z.cells.toList:=by
        rw[<-Lk];congr 1;omega
       have a5:j<(kQ li.toNat z.cells.toList).length:=by
        rcases Nat.lt_or_ge j (kQ li.toNat z.cells.toList).length with h|h
        ·exact h
        ·rw[List.getElem?_eq_none h] at hj;cases hj
       refine⟨v,by simp only [List.getElem?_toArray,e1];rw[List.getElem?_append_left a5];exact hj,?_⟩;obtain⟨v',a1,a2⟩:=(Ea φ a9 li.toNat).get hj;rw[hj] at a1;cases a1;exact a2)
      (by simp only [nS,List.size_toArray];exact Nat.mul_le_mul_right _ (by omega)) (by omega)
      (by by_cases hd:li=ci<;>simp [hd])
      (by simp only [nS,List.size_toArray,Array.length_toList,h3];exact Nat.le_refl _)
     refine⟨rfl,gN.val (L:=[]) ?_ rfl p1 p3⟩;have a0:((decide (ci<0)||decide ((e.bytes:Int)*ci>2^48))||decide (li<0)||decide (li>ci))=false:=by
      simp;omega
     simp only [Instr.makeSlice,Sem.run_bind,aN t ht,Result.andThen_ok,asInt,asIntOf,Sem.run_pure,lI elem he,a7,a8];rw[if_neg (by simpa using a0)];simp only [Sem.run_bind,run_askRoom,Result.andThen_ok,cW elem he,Sem.run_pure,Sem.run_ite];by_cases h0:ci.toNat*e.size=0
     ·have b0:ci.toNat=0:=by
       rcases Nat.mul_eq_zero.1 h0 with h|h
       ·exact h
       ·exact absurd h a6
      rw[b0] at p2⊢;simp only [Nat.zero_mul,if_true,kQ] at p2⊢;have hr:∀f:Nat->Value,(Array.range 0).map f= #[]:=fun f=>by apply Array.ext';simp
      simp only [hr,p2,Result.andThen_ok]
     ·have a4:=pK ci.toNat z.cells a3;rw[h3] at a4;rw[if_neg h0];simp only [eE elem he hz,Result.andThen_ok,h3,a4,p2]
   ·simp at ho
  ·simp at ho
 ·simp at ho
theorem yT(h:hI P GL B φ M w)(hg:jP φ M M'){t:TypeId}{len:Nat}{ps:List (Nat×Value)}{ps':Array (Nat×Value)}(h1:ps.map (·.1)=ps'.toList.map (·.1))(h2:cE φ (ps.map (·.2)) (ps'.toList.map (·.2)))
  {k:Nat} {r:AR} (ho:bE P t len ps M=some (k,r,M')):
  k=1/\gN P GL B φ M M' w r ((do pure (.value (<-Instr.buildSlice t len ps')):Sem Next).run P w):=by
 unfold bE at ho
 split at ho
 ·rename_i elem ht;split at ho
  ·rename_i e he;split at ho
   ·rename_i z hz;generalize hb:(flat z&&z.cells.toList.all isCell&&Nat.beq z.cells.toList.length e.size&& !Nat.beq e.size 0&&Nat.ble (len*e.size) (2^24))=b at ho;cases b<;>simp only [cond_true,cond_false] at ho
    ·simp at ho
    ·split at ho
     ·rename_i cs hcs;cases hc:cs.all isCell<;>simp only [hc,cond_true,cond_false] at ho
      ·simp at ho
      ·simp [made] at ho;obtain⟨rfl,rfl,rfl⟩:=ho;simp only [Bool.and_eq_true,Nat.beq_eq,Bool.not_eq_true',Nat.ble_eq,Array.length_toList] at hb;obtain⟨⟨⟨⟨h3,h4⟩,h5⟩,h6⟩,h7⟩:=hb;have a3:e.size≠0:=by intro x;rw[x] at h6;simp at h6
       have a0:0<z.cells.size:=by omega
       obtain⟨a1,e1,e2⟩:=sB (cells':=(kQ len z.cells.toList).toArray) h1 h2 (by simpa using Ea φ (wJ h3) len) hcs;have hlen:a1.size=len*e.size:=by
        have:∀{pl:Nat->Option (Nat×Nat)} {parts:List (Nat×Value)} {cells r:List Value},vB pl cells parts=some r->r.length=cells.length:=by
         intro pl parts;induction parts with
         |nil=>intro cells r hh;simp [vB] at hh;rw[hh]
         |cons p parts ih=>
          intro cells r hh
          obtain⟨i,v⟩:=p
          simp only [vB] at hh
          split at hh
          ·cases hh
          ·rename_i off size _;cases hq:(Nat.beq v.cells.toList.length size&&Nat.ble (off+v.cells.toList.length) cells.length)<;>simp only [hq,cond_true,cond_false] at hh
           ·cases hh
           ·rw[ih hh,dK]
        have h8:=this hcs;have h9:=e2.length;simp only [nS,Array.length_toList,h5] at h8 h9;omega
       obtain⟨φ',p1,p2,p3⟩:=uU (z:=e.size) (elem:=elem) (cs:=cs) (c:=a1) (len:=len) (cap':=len) (cap:=len+1) h (hg _ (Nat.le_refl _) (Nat.lt_succ_self _)) (nJ.refl w)
        (fun j v hj=>e2.getA j v hj) (by have:=e2.length;simp at this;omega) (Nat.le_refl _) (.inr rfl) (by omega)
       refine⟨rfl,gN.val (L:=[]) ?_ rfl p1 p3⟩;simp only [Instr.buildSlice,Sem.run_bind,aN t ht,Result.andThen_ok,cW elem he];rw[if_neg (by omega)];simp only [Sem.run_bind,Sem.run_ite,Sem.run_pure,Result.andThen_ok];by_cases h0:len*e.size=0
       ·have a4:len=0:=by
         rcases Nat.mul_eq_zero.1 h0 with h|h
         ·exact h
         ·exact absurd h a3
        subst a4;have hr:∀f:Nat->Value,(Array.range 0).map f= #[]:=fun f=>by apply Array.ext';simp
        simp only [kQ,Nat.zero_mul,if_true,hr] at e1⊢;simp only [e1,Sem.run_bind,p2,Result.andThen_ok,Sem.run_pure]
       ·have a2:=pK len z.cells a0;rw[h5] at a2;rw[if_neg h0];simp only [eE elem he hz,Result.andThen_ok,h5,a2,e1,Sem.run_bind,p2,Sem.run_pure]
     ·simp at ho
   ·simp at ho
  ·simp at ho
 ·simp at ho
end Go.Am
end

noncomputable section
namespace Go.Am
open Go
variable{P:Program}{GL:List Nat}{B:Bd}{φ:dX}{M M':aB}{w:World}
def vis(M:aB)(id:Nat):Bool:=Nat.blt id M.next&& !bD M.hide id
theorem jD(M:aB)(id:Nat)(b:Option aR)(j:Nat):(M.put id b).getA j=if j=id then(bif !vis M id then none else b) else M.getA j:=by
 by_cases h:j=id
 ·subst h;unfold aB.put aB.getA vis;simp only [Tr.get_set,if_true];cases(Nat.blt j M.next&& !bD M.hide j)<;>rfl
 ·unfold aB.put aB.getA;simp only [Tr.get_set,if_neg h]
theorem fG{id:Nat}{b:aR}(h:M.getA id=some b):(!vis M id)=false:=by unfold aB.getA at h;unfold vis;cases hh:(Nat.blt id M.next&& !bD M.hide id)<;>simp [hh] at h⊢
theorem lQ:∀(cs:List Value) (k:Nat) (l:List Value) (j:Nat),k+l.length<=cs.length->(splice cs k l)[j]?=if k<=j/\j<k+l.length then l[j-k]? else cs[j]?
 |cs,k,[],j,_=>by rw[iO];simp;intro h1 h2;omega
 | [],k,v::l,j,h=>by simp at h
 |c::cs,0,v::l,0,h=>by simp [splice]
 |c::cs,0,v::l,j+1,h=>by
  simp only [splice,List.getElem?_cons_succ];rw[lQ cs 0 l j (by simpa using h)];simp
 |c::cs,k+1,v::l,0,h=>by simp [splice]
 |c::cs,k+1,v::l,j+1,h=>by
  simp only [splice,List.getElem?_cons_succ];rw[lQ cs k (v::l) j (by simp at h⊢;omega)];simp only [List.length_cons];by_cases hj:k<=j/\j<k+(l.length+1)
  ·rw[if_pos hj,if_pos (by omega)];congr 1;omega
  ·rw[if_neg hj,if_neg (by omega)]
theorem qO(h:hI P GL B φ M w){id:Nat}{b:aR}(hb:M.get id=some b){e:pW}(he:φ id=some e){k:Nat}{l l':List Value}(hl:cE φ l l')(hc:l.all isCell=true)
  (hw:b.wf<=k) (hk:k+l.length<=b.cs.length) {a':Addr} (b0:l=[]\/(a'.spot=none/\a'.block=e.block/\a'.off=e.base+k)):
  ∃w',(storeCells a' l').run P w= .ok () w'/\Post P GL B φ φ M (M.put id (some {b with cs:=splice b.cs k l})) [id] w w':=by
 obtain⟨e',a4,hr⟩:=h.blk id b hb
 rw[he] at a4;cases a4
 have a3:=gP hb
 cases a8:l with
 |nil=>
  subst a8
  cases hl
  refine⟨w,by simp [storeCells],⟨fun _ _=>rfl,Nat.le_refl _,⟨fun id' b' hb'=>?_,fun b6 b7 b1 b2 e1 e2 a9 a6 a7 ho b3 b4=>?_,h.glob,h.size,fun id' b' hb'=>?_,h.rnd⟩,Fr.refl _ _ _ _,fun i e h1 h2=>(by have:i<M.next:=h2;omega),fun t ht=>by simp at ht;subst ht;exact h.ids _ _ hb⟩⟩
  ·rw[jD,iO,fG a3] at hb';by_cases hi:id'=id
   ·simp [hi] at hb';subst hb';subst hi;exact h.blkA id' b a3
   ·rw[if_neg hi] at hb';exact h.blkA id' b' hb'
  ·rw[jD,iO,fG a3] at a6 a7;have f:∀id' b',(if id'=id then(bif false then none else some b) else M.getA id')=some b'->M.getA id'=some b':=fun id' b' hq=>by
    by_cases hi:id'=id
    ·simp [hi] at hq;subst hq;rw[hi];exact a3
    ·rwa [if_neg hi] at hq
   exact h.sepA b6 b7 b1 b2 e1 e2 a9 (f _ _ a6) (f _ _ a7) ho b3 b4
  ·rw[jD,iO,fG a3] at hb';show id'<M.next;by_cases hi:id'=id
   ·rw[hi];exact h.ids id b hb
   ·rw[if_neg hi] at hb';exact h.idsA _ _ hb'
 |cons v0 l0=>
  have a9:0<l.length:=by rw[a8];simp
  obtain⟨hs,c6,c7⟩:=b0.resolve_left (by rw[a8];simp)
  rw[<-a8]
  clear a8
  have a5:b.app=true\/b.wf<b.cs.length:= .inr (by omega)
  obtain⟨c,lo,hi,c1,c2,c3,c4⟩:=hr.cells
  have hlen:=hl.length
  have hblen:=hr.len
  have c8:=hr.lt
  have c5:=hr.own a5
  refine⟨eQ w e.block (.cells (splice c.toList (e.base+k) l').toArray b.elem (lo,hi)),?_,?_⟩
  ·have:=pP (P:=P) (l:=l') (i:=0) c1 c6 hs (by omega) (fun j h1 h2=>by
    have:=c4 a5 (j-e.base) (by omega) (xAf (by omega) (Tg b.esz e.tot));rw[show e.base+(j-e.base)=j by omega] at this;exact this) (by rw[hl.isCell];exact hc)
   simpa [c7] using this
  ·have a0:∀j,(eQ w e.block (.cells (splice c.toList (e.base+k) l').toArray b.elem (lo,hi))).heap[j]?=if e.block=j then some (.cells (splice c.toList (e.base+k) l').toArray b.elem (lo,hi)) else w.heap[j]?:=fun j=>by
    rw[nL,if_pos c8]
   have b8:e.base+k+l'.length<=c.toList.length:=by simp;omega
   refine⟨fun _ _=>rfl,Nat.le_refl _,⟨fun id' b' hb'=>?_,fun b6 b7 b1 b2 e1 e2 a9 a6 a7 ho b3 b4=>?_,h.glob,?_,fun id' b' hb'=>?_,fun x hx=>(h.rnd x hx).step (dX.le_refl _) (by rw[a0,if_neg ((h.rnd x hx).ne hr)])⟩,⟨rfl,rfl,rfl,by simp [eQ],fun j hj=>?_⟩,fun i e h1 h2=>(by have:i<M.next:=h2;omega),fun t ht=>by simp at ht;subst ht;exact h.ids _ _ hb⟩
   ·rw[jD,fG a3] at hb';by_cases hid:id'=id
    ·simp [hid] at hb';subst hb';subst hid;refine⟨e,he,.inl ⟨hr.esz,⟨_,lo,hi,by rw[a0];simp;rfl,by simp [dK];exact c2,fun j v hj=>?_,?_⟩,?_,?_,fun q1 q2=>hr.whole q1 fun q3=>q2 (by simp only [q3];cases l<;>rfl),hr.real⟩⟩
     ·simp only [List.getElem?_toArray];rw[lQ _ _ _ _ hk] at hj;rw[lQ _ _ _ _ b8];by_cases hjk:k<=j/\j<k+l.length
      ·rw[if_pos hjk] at hj;obtain⟨v',a1,a2⟩:=hl.get hj;exact⟨v',by rw[if_pos (by omega),show e.base+j-(e.base+k)=j-k by omega];exact a1,a2⟩
      ·rw[if_neg hjk] at hj;obtain⟨v',a1,a2⟩:=c3 j v hj;exact⟨v',by rw[if_neg (by omega)];simpa using a1,a2⟩
     ·simp only [dK];exact c4
     ·simp only [dK];exact hr.len
     ·simp only [dK];exact hr.own
    ·rw[if_neg hid] at hb';obtain⟨e',a4,b5⟩:=h.blkA id' b' hb';rcases h.sepA id id' b b' e e' (fun x=>hid x.symm) a3 hb' a5 he a4 with hs|hs
     ·refine⟨e',a4,b5.keep (dX.le_refl φ) ?_⟩;rw[a0,if_neg hs]
     ·by_cases hbe:e.block=e'.block
      ·refine⟨e',a4,.inl ((b5.ro hs.2.1).under hs.2.1 hs.2.2.1 c1 hbe (c':=(splice c.toList (e.base+k) l').toArray) (lo':=lo) (hi':=hi) (by rw[a0,if_pos rfl]) (by simp [dK]) fun j hj=>?_)⟩;simp only [List.getElem?_toArray];rw[lQ _ _ _ _ b8,if_neg (by have:=hs.2.2.2;omega)];simp
      ·refine⟨e',a4,b5.keep (dX.le_refl φ) ?_⟩;rw[a0,if_neg hbe]
   ·rw[jD,fG a3] at a6 a7;have f:∀id' b',(if id'=id then(bif false then none else some {b with cs:=splice b.cs k l}) else M.getA id')=some b'->∃b'',M.getA id'=some b''/\((b'.app=true\/b'.wf<b'.cs.length)->(b''.app=true\/b''.wf<b''.cs.length))/\b'.wf=b''.wf/\b'.app=b''.app/\b'.cs.length=b''.cs.length:=fun id' b' hq=>by
     by_cases hi:id'=id
     ·simp [hi] at hq;subst hq;exact⟨b,by rw[hi];exact a3,by simp [dK],rfl,rfl,by simp [dK]⟩
     ·rw[if_neg hi] at hq;exact⟨b',hq,fun x=>x,rfl,rfl,rfl⟩
    obtain⟨b9,q1,q2,r1,_⟩:=f _ _ a6;obtain⟨c0,q3,_,r2,r3,r4⟩:=f _ _ a7;exact(h.sepA b6 b7 b9 c0 e1 e2 a9 q1 q3 (q2 ho) b3 b4).congr r1 r3 r4 r2
   ·simp [eQ];exact h.size
   ·rw[jD,fG a3] at hb';show id'<M.next;by_cases hi:id'=id
    ·rw[hi];exact h.ids id b hb
    ·rw[if_neg hi] at hb';exact h.idsA _ _ hb'
   ·by_cases hje:e.block=j
    ·exact .inr ⟨hje▸c5,id,by simp,e,he,hje⟩
    ·left;rw[a0,if_neg hje]
theorem Ly(h:hI P GL B φ M w){t:TypeId}{a:Addr}{x' v v':Value}(hx:bH φ (.pointer (some a)) x')(hv:bH φ v v')(ho:eB P t a v M=some M'):
  gN P GL B φ M M' w .skip ((do Instr.storeAt t x' v';pure .skip:Sem Next).run P w):=by
 obtain⟨a',rfl,h1,h2,e,he,a0,a1⟩:=hx.ptr_inv
 unfold eB at ho
 split at ho
 ·rename_i b i hb hi;generalize hq:(Nat.beq v.cells.toList.length i.size&&v.cells.toList.all isCell&&Nat.ble b.wf a.off&&Nat.ble (a.off+v.cells.toList.length) b.cs.length)=q at ho;cases q<;>simp only [cond_true,cond_false] at ho
  ·simp at ho
  ·simp at ho;subst ho;simp only [Bool.and_eq_true,Nat.beq_eq,Nat.ble_eq] at hq;obtain⟨⟨⟨q1,q2⟩,q3⟩,q4⟩:=hq;obtain⟨w',r1,r2⟩:=qO h hb he hv.cells q2 q3 q4 (.inr ⟨h2,a0,a1⟩);refine gN.skip (L:=[a.block]) ?_ rfl r2;have a2:v'.cells.size=i.size:=by have:=hv.cells.length;simp at this q1;omega
   simp [Instr.storeAt,Instr.sureAddr,storeVar,cW t hi,a2,r1]
 ·simp at ho
end Go.Am
end

namespace Go.Am
open Go
variable{P:Program}{GL:List Nat}{B:Bd}{φ:dX}{M M':aB}{w:World}
theorem hI.replace(h:hI P GL B φ M w)(hg:φ M.next=none){id:Nat}{b:aR}(hb:M.get id=some b){e:pW}(he:φ id=some e)(c3:b.app=true)(sb:Option aR)(nb:aR)(ne:pW){w':World}
  (hB:mS P B φ w' ne nb) (c2:∀s,sb=some s->mS P B φ w' e s/\s.app=false/\s.cs.length<=s.wf/\0<nb.wf/\(ne.block=e.block->e.base+s.cs.length<=ne.base+nb.wf))
  (d0:0<b.wf->0<nb.wf/\(ne.block=e.block->e.base+b.wf<=ne.base+nb.wf))
  (b4:∀k,k<w.heap.size->k≠e.block->w'.heap[k]?=w.heap[k]?)
  (c6:∀i b' e',i≠id->M.getA i=some b'->φ i=some e'->e'.block=e.block->b'.app=false->b'.cs.length<=b'.wf->e'.base+b'.cs.length<=e.base+b.wf->mS P B φ w' e' b')
  (c7:w.heap.size<=w'.heap.size) (c9:w'.os=w.os) (c0:w'.tape=w.tape) (c5:w'.output=w.output)
  (a5:ne.block=e.block\/w.heap.size<=ne.block):
  ∃φ',φ' M.next=some ne/\Post P GL B φ φ' M ((M.put id sb).alloc nb) [id] w w':=by
 have b7:=gP hb
 obtain⟨e',b6,hr⟩:=h.blk id b hb
 rw[he] at b6;cases b6
 have hid:=h.ids id b hb
 have b9:(M.put id sb).next=M.next:=rfl
 have b8:(M.put id sb).hide=M.hide:=rfl
 have a7:b.app=true\/b.wf<b.cs.length:= .inl c3
 have a8:φ.le (fun i=>if i=M.next then some ne else φ i):=fun i e he=>by
  have:i≠M.next:=fun x=>by rw[x,hg] at he;cases he
  simp [this,he]
 have b3:∀i,((M.put id sb).alloc nb).getA i=if i=M.next then(bif bD M.hide i then none else some nb) else if i=id then sb else M.getA i:=fun i=>by
  rw[jM,b9,b8,jD,fG b7];by_cases hi:i=M.next<;>by_cases hj:i=id<;>simp [hi,hj]
 refine⟨fun i=>if i=M.next then some ne else φ i,by simp,?_⟩
 have old:∀i b',i≠M.next->((M.put id sb).alloc nb).getA i=some b'->(i=id/\sb=some b')\/(i≠id/\M.getA i=some b'):=fun i b' hn hq=>by
  rw[b3,if_neg hn] at hq;by_cases hj:i=id
  ·rw[if_pos hj] at hq;exact .inl ⟨hj,hq⟩
  ·rw[if_neg hj] at hq;exact .inr ⟨hj,hq⟩
 have lt:∀i b' e',i≠M.next->((M.put id sb).alloc nb).getA i=some b'->φ i=some e'->e'.block<w.heap.size:=fun i b' e' hn hq b6=>by
  rcases old i b' hn hq with⟨rfl,_⟩|⟨_,o2⟩
  ·rw[he] at b6;cases b6;exact hr.lt
  ·obtain⟨e2,a0,c1⟩:=h.blkA i b' o2;rw[b6] at a0;cases a0;exact c1.lt
 refine⟨fun i hi=>?_,Nat.le_succ _,⟨fun i b' hq=>?_,fun a9 b5 b1 b2 e1 e2 hn b0 c4 ho a6 a0=>?_,fun g hgl=>?_,?_,fun i b' hq=>?_,fun x hx=>(h.rnd x hx).step a8 (b4 _ (h.rnd x hx).lt ((h.rnd x hx).ne hr).symm)⟩,⟨c9,c0,c5,c7,fun k hk=>?_⟩,fun i e1 h1 h2 a6=>?_,fun t ht=>by simp at ht;subst ht;exact Nat.lt_succ_of_lt hid⟩
 ·have:i≠M.next:=by
   rcases hi with hi|hi
   ·omega
   ·have:M.next+1<=i:=hi;omega
  simp [this]
 ·by_cases hn:i=M.next
  ·rw[b3,if_pos hn] at hq;cases hh:bD M.hide i<;>simp only [hh,cond_true,cond_false] at hq
   ·cases hq;refine⟨ne,by simp [hn],?_⟩;exact .inl (hB.keep a8 rfl)
   ·cases hq
  ·rcases old i b' hn hq with⟨rfl,o2⟩|⟨o1,o2⟩
   ·exact⟨e,a8 _ _ he,.inl ((c2 _ o2).1.keep a8 rfl)⟩
   ·obtain⟨e2,a0,c1⟩:=h.blkA i b' o2;refine⟨e2,a8 _ _ a0,?_⟩;by_cases hbe:e2.block=e.block
    ·rcases h.sepA id i b b' e e2 (fun y=>o1 y.symm) b7 o2 a7 he a0 with hs|⟨_,s1,s2,s3⟩
     ·exact absurd hbe.symm hs
     ·exact .inl ((c6 i b' e2 o1 o2 a0 hbe s1 s2 s3).keep a8 rfl)
    ·exact c1.keep a8 (b4 _ c1.lt hbe)
 ·by_cases i1:a9=M.next<;>by_cases i2:b5=M.next
  ·omega
  ·have c8:b1=nb:=by
    rw[b3,if_pos i1] at b0;cases hh:bD M.hide a9<;>simp only [hh,cond_true,cond_false] at b0
    ·cases b0;rfl
    ·cases b0
   have d1:e2.block<w.heap.size:=lt b5 b2 e2 i2 c4 (by simpa only [i2,if_false] using a0);simp only [i1,if_true] at a6;simp only [i2,if_false] at a0;cases a6;subst c8;rcases a5 with a5|a5
   ·rcases old b5 b2 i2 c4 with⟨rfl,o2⟩|⟨o1,o2⟩
    ·rw[he] at a0;cases a0;obtain⟨_,a1,a2,a3,a4⟩:=c2 _ o2;exact .inr ⟨a3,a1,a2,a4 a5⟩
    ·rcases h.sepA id b5 b b2 e e2 (fun y=>o1 y.symm) b7 o2 a7 he a0 with hs|⟨s0,s1,s2,s3⟩
     ·exact .inl (by rw[a5];exact hs)
     ·obtain⟨w1,w2⟩:=d0 s0;exact .inr ⟨w1,s1,s2,Nat.le_trans s3 (w2 a5)⟩
   ·exact .inl (by omega)
  ·have d2:e1.block<w.heap.size:=lt a9 b1 e1 i1 b0 (by simpa only [i1,if_false] using a6);simp only [i2,if_true] at a0;simp only [i1,if_false] at a6;cases a0;rcases a5 with a5|a5
   ·rcases old a9 b1 i1 b0 with⟨rfl,o2⟩|⟨o1,o2⟩
    ·obtain⟨_,a1,a2,_⟩:=c2 _ o2;rcases ho with ho|ho
     ·rw[a1] at ho;cases ho
     ·omega
    ·have:=(h.sepA a9 id b1 b e1 e o1 o2 b7 ho a6 he).ne a7;exact .inl (by rw[a5];exact this)
   ·exact .inl (by omega)
  ·simp only [i1,i2,if_false] at a6 a0;rcases old a9 b1 i1 b0 with⟨rfl,o2⟩|⟨o1,o2⟩
   ·obtain⟨_,a1,a2,_⟩:=c2 _ o2;rcases ho with ho|ho
    ·rw[a1] at ho;cases ho
    ·omega
   ·rcases old b5 b2 i2 c4 with⟨rfl,p2⟩|⟨p1,p2⟩
    ·rw[he] at a0;cases a0;exact .inl ((h.sepA a9 b5 b1 b e1 e o1 o2 b7 ho a6 he).ne a7)
    ·exact h.sepA a9 b5 b1 b2 e1 e2 hn o2 p2 ho a6 a0
 ·obtain⟨h1,e,he,h2⟩:=h.glob g hgl;exact⟨Nat.lt_succ_of_lt h1,e,a8 _ _ he,h2⟩
 ·exact fun k hk=>h.size k (Nat.le_trans c7 hk)
 ·show i<M.next+1;by_cases hn:i=M.next
  ·omega
  ·rcases old i b' hn hq with⟨rfl,_⟩|⟨_,o2⟩
   ·omega
   ·have:=h.idsA i b' o2;omega
 ·by_cases hke:k=e.block
  ·exact .inr ⟨by rw[hke];exact hr.own a7,id,by simp,e,he,hke.symm⟩
  ·exact .inl (b4 k hk hke)
 ·have:i=M.next:=by have:i<M.next+1:=h2;omega
  simp only [this,if_true] at a6;cases a6;rcases a5 with a5|a5
  ·exact .inr ⟨id,by simp,e,he,a5.symm⟩
  ·exact .inl a5
theorem xP{x x':Value}(hx:bH φ x x'){n:Nat}(h:nX x=some n):(Builtin.lenOf x').run P w= .ok n w:=by
 cases hx with
 |leaf hl=>cases x<;>simp [nX] at h<;>subst h<;>simp [Builtin.lenOf]
 |slice hs=>simp [nX] at h;subst h;simp [Builtin.lenOf]
 |hollow hs=>simp [nX] at h;subst h;simp [Builtin.lenOf]
 |_=>simp [nX] at h
theorem iA(h:hI P GL B φ M w){size n:Nat}{x x':Value}(hx:bH φ x x'){m:Nat}(hm:nX x=some m)(hn:n<=m){l:List Value}(hl:iS M size n x=some l){w1:World}(hs:nJ w w1):
  ∃l':List Value,(Builtin.firstCells size n x').run P w1= .ok l'.toArray w1/\cE φ l l':=by
 have h1:=h.same hs
 unfold iS at hl
 split at hl
 ·rename_i a len cap;rcases hx.slice_or with⟨a',c',rfl,s1,s2,s3,s4,e,he,s5⟩|⟨a',rfl,rfl,_,_⟩;case inr=>
   simp [nX] at hm;subst hm
   have a2:n=0:=by omega
   subst a2
   split at hl
   ·simp [range,dJ] at hl;subst hl;exact⟨[],by simp [Builtin.firstCells,loadCells,loadCellsFrom],.nil⟩
   ·simp at hl;subst hl;exact⟨[],by simp [Builtin.firstCells,loadCells,loadCellsFrom],.nil⟩
  simp [nX] at hm;subst hm;split at hl
  ·rename_i b hb;obtain⟨e',a1,hr⟩:=h1.blk _ _ hb;rw[he] at a1;cases a1;by_cases h0:n*size=0
   ·rw[h0] at hl;simp [range,dJ] at hl;subst hl;exact⟨[],by simp [Builtin.firstCells,h0,loadCells,loadCellsFrom],.nil⟩
   ·have a2:n≠0:=by intro x;simp [x] at h0
    obtain⟨q1,q2,_⟩:=s5.resolve_left (by omega);obtain⟨r',r1,r2,_⟩:=Cl hr s2 q1 q2 hl;exact⟨r',by simp [Builtin.firstCells,r1],r2⟩
  ·cases a0:Nat.beq n 0<;>simp [a0] at hl;subst hl;obtain rfl:=xBa a0;exact⟨[],by simp [Builtin.firstCells,loadCells,loadCellsFrom],.nil⟩
 ·rename_i len cap;have a3:∃l' c',x'= .slice none l' c':=by cases hx with|leaf h=>exact⟨_,_,rfl⟩
  obtain⟨l',c',rfl⟩:=a3;cases hb:Nat.beq n 0<;>simp [hb] at hl;subst hl;exact⟨[],by simp [Builtin.firstCells],.nil⟩
 ·rename_i s;cases hx.of_flat rfl;simp at hl;subst hl;refine⟨jI s n,?_,cE.refl_flat φ _ ?_⟩
  ·simp only [Builtin.firstCells,Sem.run_pure];congr 1;apply Array.ext';simp [jI,ByteArray.data_extract]
  ·unfold jI;generalize s.data.toList.take n=q;induction q with
   |nil=>rfl
   |cons v q ih=>simpa [dU,flat] using ih
 ·simp at hl
theorem wS{e:TypeInfo}{n:Nat}(h:vM e n=true):e.size≠0/\n<=2^40/\n*e.bytes<=2^40/\e.bytes<=2^40/\∃z,e.zero=some z/\z.cells.size=e.size:=by
 simp only [vM,Bool.and_eq_true,Bool.not_eq_true',Nat.ble_eq] at h;obtain⟨⟨⟨⟨h1,h2⟩,h3⟩,h4⟩,h5⟩:=h;refine⟨by intro x;simp [x] at h1,h2,h3,h4,?_⟩;unfold Ja at h5;split at h5
 ·rename_i z hz;exact⟨z,hz,by simpa using h5⟩
 ·cases h5
theorem Ws{e:TypeInfo}{a0 old:Nat}(h:vM e a0=true)(ho:old<a0):¬(Builtin.nextslicecap a0 old*e.bytes>2^48):=by
 obtain⟨_,_,h3,h4,_⟩:=wS h;have h1:=nextslicecap_le ho;have h2:Builtin.nextslicecap a0 old*e.bytes<=(2*a0)*e.bytes:=Nat.mul_le_mul_right _ h1;have h5:(2*a0)*e.bytes=2*(a0*e.bytes):=by rw[Nat.mul_assoc]
 omega
theorem En(z:Array Value)(n:Nat):(Builtin.zeroCells z n).size=n*z.size:=by simp [Builtin.zeroCells]
set_option maxHeartbeats 8000000 in
theorem xF{argTypes:Array TypeId}{type:TypeId}{sT xT elem:TypeId}{xd:TypeDesc}{e:TypeInfo}(h0:argTypes[0]?=some sT)(h1:argTypes[1]?=some xT)(hs:P.underlying sT=some (.slice elem))(hx:P.underlying xT=some xd)
  (a6:kL xd=false) (he:P.info? elem=some e) {base:Option Addr} {len cap n:Nat} {x:Value} (hn:(Builtin.lenOf x).run P w= .ok n w) (a5:¬len+n<=cap) (hr:vM e (len+n)=true)
  {old new:List Value} (a2:(Builtin.firstCells e.size len (.slice base len cap)).run P w.drew= .ok old.toArray w.drew) (a1:(Builtin.firstCells e.size n x).run P w.drew= .ok new.toArray w.drew):
  ∃(c:Array Value) (cap':Nat),(Builtin.append_ argTypes type #[.slice base len cap,x]).run P w= .ok (.slice (some ⟨w.heap.size,0,none⟩) (len+n) cap') (w.drew.alloc (.cells c elem (0,0)))/\
   len+n<=cap'/\(∀(j:Nat) (v:Value),(old++new)[j]?=some v->c[j]?=some v)/\(old++new).length<=c.size/\((old++new).length=(len+n)*e.size->cap'*e.size<=c.size):=by
 obtain⟨r1,r2,r3,r4,z,hz,a7⟩:=wS hr
 have a0:=Ws (old:=cap) hr (by omega)
 let q:Question:= .appendCap (len+n) cap elem
 have hq:len+n<=q.cut (w.tape w.drawn q):=by show len+n<=len+n+_;omega
 have a4:¬(9223372036854775807<((len:Int)+(n:Int))):=by omega
 have a3:¬(281474976710656<Builtin.nextslicecap (len+n) cap*e.bytes):=by simpa using a0
 refine⟨old.toArray++(new.toArray++Builtin.zeroCells z.cells (q.cut (w.tape w.drawn q)-(len+n))),q.cut (w.tape w.drawn q),?_,hq,fun j v hj=>?_,by simp,fun hl=>?_⟩
 ·cases xd<;>first
   |(simp [kL] at a6;done)
   |(simp [Builtin.append_,h0,h1,aN sT hs,aN xT hx,cW elem he,hn,a5,lI elem he,a4,a3,Question.forced,a2,a1,eE elem he hz,newRow];exact⟨rfl,rfl⟩)
 ·rw[<-Array.append_assoc,Array.getElem?_append_left (by
   rcases Nat.lt_or_ge j (old++new).length with h|h
   ·simpa using h
   ·rw[List.getElem?_eq_none h] at hj;cases hj)]
  simpa using hj
 ·simp only [Array.size_append,List.size_toArray,En,a7];have:(old++new).length=old.length+new.length:=by simp
  rw[this] at hl;rw[<-Nat.add_assoc,hl,<-Nat.add_mul];exact Nat.mul_le_mul_right _ (by omega)
set_option maxHeartbeats 8000000 in
theorem qA{argTypes:Array TypeId}{type:TypeId}{sT xT elem:TypeId}{xd:TypeDesc}{e:TypeInfo}(h0:argTypes[0]?=some sT)(h1:argTypes[1]?=some xT)(hs:P.underlying sT=some (.slice elem))(hx:P.underlying xT=some xd)
  (a3:kL xd=false) (he:P.info? elem=some e) {base:Option Addr} {len cap n:Nat} {x:Value} (hn:(Builtin.lenOf x).run P w= .ok n w) (a2:len+n<=cap)
  {new:List Value} {w':World} (a0:(Builtin.firstCells e.size n x).run P w= .ok new.toArray w) (a1:match base with|some a=>(storeCells (a.add (len*e.size)) new).run P w= .ok () w'|none=>w'=w):
  (Builtin.append_ argTypes type #[.slice base len cap,x]).run P w= .ok (.slice base (len+n) cap) w':=by
 cases base with
 |none=>
  simp only at a1
  subst a1
  cases xd<;>first
   |(simp [kL] at a3;done)
   |(simp [Builtin.append_,h0,h1,aN sT hs,aN xT hx,cW elem he,hn,a2,a0];done)
 |some a=>
  simp only at a1
  cases xd<;>first
   |(simp [kL] at a3;done)
   |(simp [Builtin.append_,h0,h1,aN sT hs,aN xT hx,cW elem he,hn,a2,a0,a1];done)
end Go.Am
