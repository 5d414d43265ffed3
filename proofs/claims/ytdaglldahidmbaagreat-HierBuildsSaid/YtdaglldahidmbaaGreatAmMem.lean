/-
  Package hier: each of its laws for every argument; no conditions. The last text states which.
-/
import Derived.Test.YtdaglldahidmbaaGreatGAmOps0
set_option linter.unusedVariables false
set_option linter.unusedSimpArgs false
noncomputable section
namespace Go.Am
open Go
variable{P:Program}{GL:List Nat}{B:Bd}{φ φ':dX}{M M':aB}{w w':World}
def jP(φ:dX)(M M':aB):Prop:=∀id,M.next<=id->id<M'.next->φ id=none
theorem jP.sub{M1 M2:aB}(h:jP φ M M2)(hn:M1.next<=M2.next):jP φ M M1:=fun id h1 h2=>h id h1 (xAf h2 hn)
theorem Post.le{L:List Nat}(h:Post P GL B φ φ' M M' L w w')(hg:jP φ M M'):φ.le φ':=fun id e he=>by
 by_cases hi:id<M.next
 ·rw[h.ext id (.inl hi)];exact he
 ·by_cases hi2:id<M'.next
  ·rw[hg id (by omega) hi2] at he;cases he
  ·rw[h.ext id (.inr (by omega))];exact he
theorem Post.good{L:List Nat}{M2:aB}(h:Post P GL B φ φ' M M' L w w')(hg:jP φ M M2):jP φ' M' M2:=fun id hi hi2=>by
 rw[h.ext id (.inr hi)];exact hg id (Nat.le_trans h.next hi) hi2
theorem Fr.weaken{L L':List Nat}(h:Fr B φ L w w')(hl:∀t∈L,φ t≠none->t∈L'):Fr B φ L' w w':=
 ⟨h.os,h.tape,h.output,h.size,fun k hk=>(h.block k hk).imp id fun⟨hB,t,ht,e,he,hb⟩=>⟨hB,t,hl t ht (by simp [he]),e,he,hb⟩⟩
theorem Post.weaken{L L':List Nat}(h:Post P GL B φ φ' M M' L w w')(hl:∀t∈L,φ t≠none->t∈L')(hb:∀t∈L',t<M'.next):Post P GL B φ φ' M M' L' w w':=
 ⟨h.ext,h.next,h.rel,h.fr.weaken hl,fun i e h1 h2 h3=>(h.newb i e h1 h2 h3).imp (fun x=>x) fun⟨t,ht,e0,he,hb⟩=>⟨t,hl t ht (by simp [he]),e0,he,hb⟩,hb⟩
theorem Post.refl(h:hI P GL B φ M w):Post P GL B φ φ M M [] w w:=
 ⟨fun _ _=>rfl,Nat.le_refl _,h,Fr.refl _ _ _ _,fun id e h1 h2=>by omega,fun t ht=>by cases ht⟩
theorem Post.trans{φ1 φ2:dX}{M1 M2:aB}{L1 L2:List Nat}{w1 w2:World}(h:Post P GL B φ φ1 M M1 L1 w w1)(k:Post P GL B φ1 φ2 M1 M2 L2 w1 w2):
  Post P GL B φ φ2 M M2 (L2++L1) w w2 where
 ext id hi:=by
  rcases hi with hi|hi
  ·rw[k.ext id (.inl (xAf hi h.next)),h.ext id (.inl hi)]
  ·rw[k.ext id (.inr hi),h.ext id (.inr (Nat.le_trans k.next hi))]
 next:=Nat.le_trans h.next k.next
 rel:=k.rel
 fr:=by
  refine⟨k.fr.os.trans h.fr.os,k.fr.tape.trans h.fr.tape,k.fr.output.trans h.fr.output,Nat.le_trans h.fr.size k.fr.size,fun b hb=>?_⟩;rcases h.fr.block b hb with e1|⟨hB,t,ht,e,he,hbe⟩
  ·rcases k.fr.block b (xAf hb h.fr.size) with e2|⟨hB,t,ht,e,he,hbe⟩
   ·exact .inl (e2.trans e1)
   ·by_cases hi:t<M.next
    ·rw[h.ext t (.inl hi)] at he;exact .inr ⟨hB,t,by simp [ht],e,he,hbe⟩
    ·by_cases a2:t<M1.next
     ·rcases h.newb t e (by omega) a2 he with hn|⟨t0,a3,e0,a0,a1⟩
      ·omega
      ·exact .inr ⟨hB,t0,by simp [a3],e0,a0,by omega⟩
     ·rw[h.ext t (.inr (by omega))] at he;exact .inr ⟨hB,t,by simp [ht],e,he,hbe⟩
  ·exact .inr ⟨hB,t,by simp [ht],e,he,hbe⟩
 newb id e h1 h2 he:=by
  by_cases hi:id<M1.next
  ·rw[k.ext id (.inl hi)] at he;rcases h.newb id e h1 hi he with hn|⟨t0,a3,e0,a0,a1⟩
   ·exact .inl hn
   ·exact .inr ⟨t0,by simp [a3],e0,a0,a1⟩
  ·rcases k.newb id e (by omega) h2 he with hn|⟨t,ht,e0,a0,a1⟩
   ·exact .inl (Nat.le_trans h.fr.size hn)
   ·by_cases hi:t<M.next
    ·rw[h.ext t (.inl hi)] at a0;exact .inr ⟨t,by simp [ht],e0,a0,a1⟩
    ·by_cases a2:t<M1.next
     ·rcases h.newb t e0 (by omega) a2 a0 with hn|⟨t1,a5,e1,a4,a6⟩
      ·exact .inl (by omega)
      ·exact .inr ⟨t1,by simp [a5],e1,a4,by omega⟩
     ·rw[h.ext t (.inr (by omega))] at a0;exact .inr ⟨t,by simp [ht],e0,a0,a1⟩
 logb t ht:=by
  rcases List.mem_append.1 ht with ht|ht
  ·exact k.logb t ht
  ·exact xAf (h.logb t ht) k.next
structure nJ(w w1:World):Prop where
 heap:w1.heap=w.heap
 os:w1.os=w.os
 tape:w1.tape=w.tape
 output:w1.output=w.output
theorem nJ.refl(w:World):nJ w w:=⟨rfl,rfl,rfl,rfl⟩
theorem nJ.drew(w:World):nJ w w.drew:=⟨rfl,rfl,rfl,rfl⟩
theorem mS.same{w w1:World}{e:pW}{b:aR}(hs:w1.heap=w.heap)(h:mS P B φ w e b):mS P B φ w1 e b:=by obtain⟨h1,h2,h3,h4,h5,h6⟩:=h;refine⟨h1,?_,h3,h4,h5,h6⟩;rw[hs];exact h2
theorem pX.same{w w1:World}{e:pW}{b:aR}(hs:w1.heap=w.heap)(h:pX P B φ w e b):pX P B φ w1 e b:=by
 rcases h with h|⟨h1,h2,h3,h4,h5,h6⟩
 ·exact .inl (h.same hs)
 ·exact .inr ⟨h1,h2,by rw[hs];exact h3,h4,h5,h6⟩
theorem hI.same{w w1:World}(hs:nJ w w1)(h:hI P GL B φ M w):hI P GL B φ M w1:=
 ⟨fun id b hb=>let ⟨e,he,hr⟩:=h.blkA id b hb;⟨e,he,hr.same hs.heap⟩,h.sepA,h.glob,by rw[hs.heap];exact h.size,h.idsA,fun x hx=>(h.rnd x hx).step (dX.le_refl _) (by rw[hs.heap])⟩
theorem mS.keep{w w1:World}{e:pW}{b:aR}(hφ:φ.le φ')(h:mS P B φ w e b)(hk:w1.heap[e.block]?=w.heap[e.block]?):mS P B φ' w1 e b:=by obtain⟨h1,⟨c,lo,hi,c1,c2,c3,c4⟩,h3,h4,h5,h6⟩:=h;exact⟨h1,⟨c,lo,hi,by rw[hk];exact c1,c2,fun j v hj=>let ⟨v',a1,a2⟩:=c3 j v hj;⟨v',a1,a2.mono hφ⟩,c4⟩,h3,h4,h5,h6⟩
theorem pX.keep{w w1:World}{e:pW}{b:aR}(hφ:φ.le φ')(h:pX P B φ w e b)(hk:w1.heap[e.block]?=w.heap[e.block]?):pX P B φ' w1 e b:=by
 rcases h with h|⟨h1,h2,⟨es,ck,c1,c2,c3⟩,h4,h5,h6⟩
 ·exact .inl (h.keep hφ hk)
 ·exact .inr ⟨h1,h2,⟨es,ck,by rw[hk];exact c1,c2.mono hφ,c3⟩,h4,h5,h6⟩
theorem mS.under{w w1:World}{e e1:pW}{b:aR}(h:mS P B φ w e b)(a0:b.app=false)(hro:b.cs.length<=b.wf){c c':Array Value}{t:TypeId}{lo hi lo' hi':Nat}
  (hc:w.heap[e1.block]?=some (.cells c t (lo,hi))) (hb:e1.block=e.block) (a3:w1.heap[e1.block]?=some (.cells c' t (lo',hi'))) (a4:c'.size=c.size)
  (hk:∀j,j<e.base+b.cs.length->c'[j]?=c[j]?):mS P B φ w1 e b:=by
 obtain⟨h1,⟨c0,a6,a5,c1,c2,c3,c4⟩,h3,h4,h5,h6⟩:=h
 rw[<-hb,hc] at c1
 simp only [Option.some.injEq,Obj.cells.injEq,Prod.mk.injEq] at c1
 obtain⟨rfl,rfl,rfl,rfl⟩:=c1
 refine⟨h1,⟨c',lo',hi',by rw[<-hb];exact a3,by rw[a4];exact c2,fun j v hj=>?_,fun hx=>?_⟩,h3,h4,h5,h6⟩
 ·obtain⟨v',a1,a2⟩:=c3 j v hj;have hjl:j<b.cs.length:=by
   rcases Nat.lt_or_ge j b.cs.length with h|h
   ·exact h
   ·rw[List.getElem?_eq_none h] at hj;cases hj
  exact⟨v',by rw[hk _ (by omega)];exact a1,a2⟩
 ·rcases hx with hx|hx
  ·rw[a0] at hx;cases hx
  ·omega
theorem mS.lt{e:pW}{b:aR}(h:mS P B φ w e b):e.block<w.heap.size:=by
 obtain⟨c,lo,hi,c1,_⟩:=h.cells;rcases Nat.lt_or_ge e.block w.heap.size with h|h
 ·exact h
 ·rw[Array.getElem?_eq_none h] at c1;cases c1
theorem pX.lt{e:pW}{b:aR}(h:pX P B φ w e b):e.block<w.heap.size:=by
 rcases h with h|h
 ·exact h.lt
 ·obtain⟨es,ck,c1,_⟩:=h.lies;rcases Nat.lt_or_ge e.block w.heap.size with h|h
  ·exact h
  ·rw[Array.getElem?_eq_none h] at c1;cases c1
theorem sZ.ne{x:Rnd}{e:pW}{b:aR}(hx:sZ φ w x)(h:mS P B φ w e b):e.block≠x.l:=fun hh=>by
 obtain⟨c,lo,hi,c1,_⟩:=h.cells;have:=hx.lies;rw[<-hh,c1] at this;cases this
theorem sZ.neU{x:Rnd}{e:pW}{b:aR}(hx:sZ φ w x)(h:pX P B φ w e b):e.block≠x.l:=fun hh=>by
 rcases h with h|h
 ·exact hx.ne h hh
 ·obtain⟨es,ck,c1,_⟩:=h.lies;have:=hx.lies;rw[<-hh,c1] at this;cases this
theorem jM(M:aB)(b:aR)(id:Nat):(M.alloc b).getA id=if id=M.next then(bif bD M.hide id then none else some b) else M.getA id:=by
 by_cases h:id=M.next
 ·subst h;have h1:Nat.blt M.next (M.next+1)=true:=Nat.ble_eq_true_of_le (Nat.le_refl _);unfold aB.alloc aB.getA;simp only [Tr.get_set,h1,Bool.true_and,if_true];cases bD M.hide M.next<;>rfl
 ·rw[if_neg h];have h1:Nat.blt id (M.next+1)=Nat.blt id M.next:=by
   rw[Bool.eq_iff_iff];simp only [Nat.blt,Nat.ble_eq];omega
  unfold aB.alloc aB.getA;simp only [Tr.get_set,h1,if_neg h]
theorem hI.alloc(h:hI P GL B φ M w)(hg:φ M.next=none)(b:aR)(c:Array Value)(lo hi:Nat){w1:World}(hs:nJ w w1)(a9:b.cs.length<=c.size)
  (b6:∀(j:Nat) (v:Value),b.cs[j]?=some v->∃v',c[j]?=some v'/\bH φ v v') (b7:∀j,b.wf<=j->j<Xs b.esz c.size->¬(lo<=j/\j<hi)):
  ∃φ',φ' M.next=some ⟨w.heap.size,0,c.size,b.esz⟩/\Post P GL B φ φ' M (M.alloc b) [] w (w1.alloc (.cells c b.elem (lo,hi))):=by
 have b0:(w1.alloc (.cells c b.elem (lo,hi))).heap[w.heap.size]?=some (.cells c b.elem (lo,hi)):=by
  rw[<-hs.heap];exact heap_alloc_new _ _
 have a3:∀k,k<w.heap.size->(w1.alloc (.cells c b.elem (lo,hi))).heap[k]?=w.heap[k]?:=fun k hk=>by
  rw[heap_alloc_old _ _ (by rw[hs.heap];exact hk),hs.heap]
 refine⟨fun id=>if id=M.next then some ⟨w.heap.size,0,c.size,b.esz⟩ else φ id,by simp,?_⟩
 have a8:φ.le (fun id=>if id=M.next then some ⟨w.heap.size,0,c.size,b.esz⟩ else φ id):=fun id e he=>by
  have:id≠M.next:=fun x=>by rw[x,hg] at he;cases he
  simp [this,he]
 refine⟨fun id hi=>?_,Nat.le_succ _,⟨fun id b' hb=>?_,fun b3 b4 b1 b2 e1 e2 hne a6 a7 ho a4 a5=>?_,fun g hgl=>?_,?_,fun id b' hb=>?_,fun x hx=>(h.rnd x hx).step a8 (a3 _ (h.rnd x hx).lt)⟩,⟨hs.os,hs.tape,hs.output,?_,fun k hk=> .inl (a3 k hk)⟩,fun id e h1 h2 he=>?_,fun t ht=>by cases ht⟩
 ·have:id≠M.next:=by
   rcases hi with hi|hi
   ·omega
   ·have:M.next+1<=id:=hi;omega
  simp [this]
 ·rw[jM] at hb;by_cases hid:id=M.next
  ·subst hid;simp only [if_true] at hb;cases hh:bD M.hide M.next<;>simp only [hh,cond_true,cond_false] at hb
   ·simp at hb;subst hb;refine⟨_,by simp;rfl,.inl ⟨rfl,⟨c,lo,hi,b0,by simp,fun j v hj=>?_,fun _ j h1 h2=>by simpa using b7 j h1 (by simpa using h2)⟩,a9,fun _=>h.size _ (Nat.le_refl _),fun _ _=>rfl,fun hx=>by cases hx.1⟩⟩;obtain⟨v',a1,a2⟩:=b6 j v hj;exact⟨v',by simpa using a1,a2.mono a8⟩
   ·cases hb
  ·rw[if_neg hid] at hb;obtain⟨e,he,hr⟩:=h.blkA id b' hb;exact⟨e,a8 _ _ he,hr.keep a8 (a3 _ hr.lt)⟩
 ·rw[jM] at a6 a7;have a0:∀id b' e,id≠M.next->M.getA id=some b'->φ id=some e->e.block<w.heap.size:=fun id b' e hn hb' he=>by
   obtain⟨e',b5,hr⟩:=h.blkA id b' hb';rw[he] at b5;cases b5;exact hr.lt
  by_cases i1:b3=M.next<;>by_cases i2:b4=M.next
  ·omega
  ·simp only [i1,if_true] at a4;simp only [i2,if_false] at a5 a7;cases a4;exact .inl (Nat.ne_of_gt (a0 b4 b2 e2 i2 a7 a5))
  ·simp only [i2,if_true] at a5;simp only [i1,if_false] at a4 a6;cases a5;exact .inl (Nat.ne_of_lt (a0 b3 b1 e1 i1 a6 a4))
  ·simp only [i1,i2,if_false] at a4 a5 a6 a7;exact h.sepA b3 b4 b1 b2 e1 e2 hne a6 a7 ho a4 a5
 ·obtain⟨h1,e,he,h2⟩:=h.glob g hgl;exact⟨Nat.lt_succ_of_lt h1,e,a8 _ _ he,h2⟩
 ·intro k hk;refine h.size k ?_;simp [hs.heap] at hk;omega
 ·rw[jM] at hb;show id<M.next+1;by_cases hid:id=M.next
  ·omega
  ·rw[if_neg hid] at hb;have:=h.idsA id b' hb;omega
 ·simp [hs.heap]
 ·have:id=M.next:=by have:id<M.next+1:=h2;omega
  simp only [this,if_true] at he;cases he;exact .inl (Nat.le_refl _)
theorem Ho{e:pW}{b:aR}(h:mS P B φ w e b){a':Addr}(hs:a'.spot=none)(hb:a'.block=e.block){j:Nat}(ho:a'.off=e.base+j){v:Value}(hv:b.cs[j]?=some v):
  ∃v',w.cell? a'=some v'/\bH φ v v':=by
 obtain⟨c,lo,hi,c1,c2,c3,c4⟩:=h.cells
 obtain⟨v',a1,a2⟩:=c3 j v hv
 refine⟨v',?_,a2⟩
 simp [World.cell?,hb,c1,hs,ho,a1]
theorem pQ:∀{n:Nat} {l r:List Value},dJ n l=some r->r=l.take n/\r.length=n
 |0,l,r,h=>by simp [dJ] at h;subst h;simp
 |n+1,[],r,h=>by simp [dJ] at h
 |n+1,v::l,r,h=>by
  simp only [dJ] at h;split at h
  ·rename_i r' hr;simp at h;subst h;obtain⟨h1,h2⟩:=pQ hr;exact⟨by simp [h1],by simp [h2]⟩
  ·simp at h
theorem kR{n k:Nat}{l r:List Value}(h:dJ n (l.drop k)=some r)(j:Nat)(v:Value)(hj:r[j]?=some v):l[k+j]?=some v/\j<n:=by
 obtain⟨h1,h2⟩:=pQ h;have a0:j<n:=by
  rcases Nat.lt_or_ge j r.length with h|h
  ·omega
  ·rw[List.getElem?_eq_none h] at hj;cases hj
 refine⟨?_,a0⟩;rw[h1,List.getElem?_take_of_lt a0,List.getElem?_drop] at hj;exact hj
theorem Cl{e:pW}{b:aR}(h:mS P B φ w e b){a':Addr}(hs:a'.spot=none)(hb:a'.block=e.block){k:Nat}(ho:a'.off=e.base+k){n:Nat}{r:List Value}(hr:dJ n (b.cs.drop k)=some r):
  ∃r':List Value,(loadCells a' n).run P w= .ok r'.toArray w/\cE φ r r'/\r'.length=n/\∀j u,r'[j]?=some u->w.cell? (a'.add j)=some u:=by
 have a1:=(pQ hr).2
 have a0:∀j v,r[j]?=some v->∃v',w.cell? (a'.add j)=some v'/\bH φ v v':=fun j v hj=>by
  obtain⟨h1,h2⟩:=kR hr j v hj;refine Ho h ?_ ?_ (j:=k+j) ?_ h1<;>(unfold Addr.add;split<;>simp_all<;>omega)
 refine⟨(List.range n).map fun j=>(w.cell? (a'.add j)).getD undef,?_,?_,by simp,fun j u hu=>?_⟩
 ·refine run_loadCells w a' n _ fun j hj=>?_
  obtain⟨v',h1,_⟩:=a0 j (r[j]'(by omega)) (by simp);simp [h1]
 ·refine cE.of_get (by simp [a1]) fun j v v' hv hv'=>?_
  obtain⟨u,h1,h2⟩:=a0 j v hv;have hj:=(kR hr j v hv).2;simp [hj,h1] at hv';subst hv';exact h2
 ·have hj:j<n:=by
   rcases Nat.lt_or_ge j n with h|h
   ·exact h
   ·simp [h] at hu
  obtain⟨v',h1,_⟩:=a0 j (r[j]'(by omega)) (by simp);simp [hj,h1] at hu;simp [h1,hu]
theorem Di(h:hI P GL B φ M w){t:TypeId}{a:Addr}{x' v:Value}(hx:bH φ (.pointer (some a)) x')(hl:bA P t a M=some v):
  ∃v',(Instr.loadAt t x').run P w= .ok v' w/\bH φ v v':=by
 obtain⟨a',rfl,h1,h2,e,he,hb,ho⟩:=hx.ptr_inv
 unfold bA at hl
 split at hl
 ·rename_i d b hd hbk;obtain⟨e',a0,hr⟩:=h.blk _ _ hbk;rw[he] at a0;cases a0;cases hi:eC d<;>simp only [hi,cond_true,cond_false] at hl
  ·obtain⟨v',c1,c2⟩:=Ho hr h2 hb ho hl;exact⟨v',by simp [Instr.loadAt,Instr.sureAddr,loadVar,sJ t hd,hi,run_load,c1],c2⟩
  ·split at hl
   ·rename_i i hinf;split at hl
    ·rename_i l hlt;simp at hl;subst hl;obtain⟨r',c1,c2,_⟩:=Cl hr h2 hb ho hlt;exact⟨.agg r'.toArray,by simp [Instr.loadAt,Instr.sureAddr,loadVar,sJ t hd,hi,cW t hinf,c1],bH.agg' c2⟩
    ·simp at hl
   ·simp at hl
 ·simp at hl
def eQ(w:World)(k:Nat)(o:Obj):World:={w with heap:=w.heap.setIfInBounds k o}
theorem Lt{k:Nat}{o:Obj}(h:w.heap[k]?=some o):eQ w k o=w:=by
 unfold eQ;have:w.heap.setIfInBounds k o=w.heap:=by
  apply Array.ext_getElem?;intro j;rw[Array.getElem?_setIfInBounds];by_cases hj:k=j
  ·subst hj;have:k<w.heap.size:=by
    rcases Nat.lt_or_ge k w.heap.size with h'|h'
    ·exact h'
    ·rw[Array.getElem?_eq_none h'] at h;cases h
   rw[if_pos rfl,if_pos this,h]
  ·simp [hj]
 rw[this]
theorem Fm(w:World)(k:Nat)(o o':Obj):eQ (eQ w k o) k o'=eQ w k o':=by unfold eQ;simp [Array.setIfInBounds_setIfInBounds]
theorem Lq{k:Nat}{c:Array Value}{t:TypeId}{fr:Nat×Nat}(h:w.heap[k]?=some (.cells c t fr)){a:Addr}(ha:a.block=k)(hs:a.spot=none)(v:Value):
  w.setCell a v=eQ w k (.cells (c.setIfInBounds a.off v) t fr):=by
 unfold World.setCell eQ
 congr 1
 apply Array.ext_getElem?
 intro j
 rw[Array.getElem?_setIfInBounds,Array.getElem?_modify]
 by_cases hj:a.block=j
 ·subst hj;have a0:a.block<w.heap.size:=by
   rw[ha];rcases Nat.lt_or_ge k w.heap.size with h'|h'
   ·exact h'
   ·rw[Array.getElem?_eq_none h'] at h;cases h
  rw[ha] at a0⊢;rw[if_pos rfl,if_pos rfl,if_pos a0,h];simp [hs]
 ·have:¬k=j:=by omega
  simp [hj,this]
theorem nL(w:World)(k j:Nat)(o:Obj):(eQ w k o).heap[j]?=if k=j then(if k<w.heap.size then some o else none) else w.heap[j]?:=by unfold eQ;simp [Array.getElem?_setIfInBounds]
theorem xS{v:Value}(h:isCell v=true):v.oneCell'=true:=by cases v<;>first|rfl|simp [isCell] at h
theorem pP:∀{l:List Value} {i:Nat} {w:World} {k:Nat} {c:Array Value} {t:TypeId} {lo hi:Nat} {a:Addr},w.heap[k]?=some (.cells c t (lo,hi))->a.block=k->a.spot=none->
  a.off+i+l.length<=c.size->(∀j,a.off+i<=j->j<a.off+i+l.length->¬(lo<=j/\j<hi))->l.all isCell=true->
  (storeCells a l i).run P w= .ok () (eQ w k (.cells (splice c.toList (a.off+i) l).toArray t (lo,hi)))
 | [],i,w,k,c,t,lo,hi,a,h,ha,hs,hlen,hfr,hc=>by
  simp [storeCells,iO,Lt h]
 |v::l,i,w,k,c,t,lo,hi,a,h,ha,hs,hlen,hfr,hc=>by
  simp only [List.length_cons] at hlen hfr;simp only [List.all_cons,Bool.and_eq_true] at hc;have hA:(a.add i).block=k/\(a.add i).spot=none/\(a.add i).off=a.off+i:=by
   unfold Addr.add;split<;>simp_all
  have a0:w.cell? (a.add i)=some c[a.off+i]:=by
   simp [World.cell?,hA,h]
  have a1:w.frozen? (a.add i)=false:=by
   have:=hfr (a.off+i) (Nat.le_refl _) (by omega);simp only [World.frozen?,hA,h];simp;omega
  simp only [storeCells,Sem.run_bind];rw[run_store P w _ v _ (xS hc.1),a0];simp only [a1,Bool.false_eq_true,if_false,Result.andThen_ok];rw[Lq h hA.1 hA.2.1 v,hA.2.2];have a2:k<w.heap.size:=by
   rcases Nat.lt_or_ge k w.heap.size with h'|h'
   ·exact h'
   ·rw[Array.getElem?_eq_none h'] at h;cases h
  have ih:=pP (l:=l) (i:=i+1) (w:=eQ w k (.cells (c.setIfInBounds (a.off+i) v) t (lo,hi))) (k:=k) (c:=c.setIfInBounds (a.off+i) v) (t:=t) (lo:=lo) (hi:=hi) (a:=a)
   (by rw[nL];simp [a2]) ha hs (by simp;omega) (fun j h1 h2=>hfr j (by omega) (by omega)) hc.2
  rw[ih,Fm];congr 2;rw[sL];simp [Nat.add_assoc]
end Go.Am
end
