/-
  Package hier: each of its laws for every argument; no conditions. The last text states which.
-/
import Derived.Test.YtdaglldahidmbaaAmOps4
import Derived.Lib.UnsafeStr
import Derived.Lib.Builder
set_option linter.unusedVariables false
set_option linter.unusedSimpArgs false
namespace Go.Am
open Go
variable{P:Program}{GL:List Nat}{B:Bd}{φ:dC}{M M':aA}{w:World}
theorem Kw(h:gI P GL B φ M w){argTypes:Array TypeId}{type:TypeId}{d d' x x':Value}(hd:bA φ d d')(hx:bA φ x x'){k:Nat}{r:AR}
  (ho:Hk P argTypes.toList d x M=some (k,r,M')):
  fV P GL B φ M M' w r ((do pure (.value (<-Builtin.copy_ argTypes type #[d',x'])):Sem Next).run P w):=by
 unfold Hk at ho
 split at ho
 case h_2=>simp at ho
 rename_i dT rest hat
 have a0:argTypes[0]?=some dT:=by rw[<-Array.getElem?_toList,hat];rfl
 split at ho
 case h_2=>simp at ho
 rename_i elem hdT
 split at ho
 case h_3=>simp at ho
 ·rename_i e n he hn
  cases hd.of_flat rfl
  simp at ho
  obtain⟨_,rfl,rfl⟩:=ho
  have hlen':=wB (P:=P) (w:=w) hx hn
  have hz: ∃l':List Value,(Builtin.firstCells e.size 0 x').run P w= .ok l'.toArray w:=by
   cases hx with
   |leaf hl=>
    cases x<;>simp [oA] at hn
    ·exact⟨[],by simp [Builtin.firstCells]⟩
    ·rename_i a _ _
     cases a with
     |none=>exact⟨[],by simp [Builtin.firstCells]⟩
     |some a=>simp [leaf] at hl
   |slice hs=>exact⟨[],by simp [Builtin.firstCells,loadCells,loadCellsFrom]⟩
   |hollow hs=>exact⟨[],by simp [Builtin.firstCells,loadCells,loadCellsFrom]⟩
   |_=>simp [oA] at hn
  obtain⟨l',hl'⟩:=hz
  refine fV.val (L:= []) ?_ rfl (Post.refl h) (.leaf rfl)
  simp [Builtin.copy_,a0,aR dT hdT,hlen',cG elem he,hl',goInt]
 ·rename_i e n a dl dc he hn
  split at ho
  case h_2=>simp at ho
  rename_i l b hl hb
  rcases hd.slice_or with⟨a',dc',rfl,s1,s2,s3,s4,en,hen,s5⟩|⟨_,_,_,_,hsp⟩
  case inr=>
   exfalso
   have a1:a.spot.isNone=false:=by cases hh:a.spot<;>simp_all
   rw[a1] at ho
   simp at ho
  cases hq:(!(l.all isCell)|| !(Nat.ble b.wf a.off)|| !(Nat.ble (a.off+l.length) b.cs.length)|| !a.spot.isNone)<;>simp only [hq,cond_true,cond_false] at ho
  case true=>simp at ho
  simp only [Bool.or_eq_false_iff,Bool.not_eq_false',Nat.ble_eq] at hq
  obtain⟨⟨⟨q1,q2⟩,q3⟩,_⟩:=hq
  simp at ho
  obtain⟨_,rfl,rfl⟩:=ho
  have hlen':=wB (P:=P) (w:=w) hx hn
  obtain⟨l',f1,f2⟩:=gN h hx hn (Nat.min_le_left n dl) hl (mL.refl w)
  have hadr:l= []\/(a'.spot=none/\a'.block=en.block/\a'.off=en.base+a.off):=by
   rcases s5 with s5|s5
   ·left
    have:dl=0:=by omega
    subst this
    have hm:Nat.min n 0=0:=by simp
    rw[hm] at hl
    unfold jM at hl
    split at hl
    ·split at hl
     ·simp [range,dA] at hl;exact hl
     ·simp at hl;exact hl
    ·simp at hl;exact hl
    ·simp [iT] at hl;exact hl
    ·simp at hl
   ·exact .inr ⟨s2,s5.1,s5.2.1⟩
  obtain⟨w',r1,r2⟩:=pD h hb hen f2 q1 q2 q3 hadr
  refine fV.val (L:= [a.block]) ?_ rfl r2 (.leaf rfl)
  simp only [Builtin.copy_]
  simp [a0,aR dT hdT,hlen',cG elem he,goInt]
  rw[f1]
  simp [r1]
theorem Ie(h:gI P GL B φ M w){argTypes:Array TypeId}{type:TypeId}{x x':Value}(hx:bA φ x x'){k:Nat}{r:AR}
  (ho:Fs P argTypes.toList x M=some (k,r,M')):
  fV P GL B φ M M' w r ((do pure (.value (<-Builtin.clear_ argTypes type #[x'])):Sem Next).run P w):=by
 unfold Fs at ho
 split at ho
 case h_2=>simp at ho
 rename_i t rest a n cp hat
 have a0:argTypes[0]?=some t:=by rw[<-Array.getElem?_toList,hat];rfl
 split at ho
 case h_2=>simp at ho
 rename_i elem hdT
 split at ho
 case h_2=>simp at ho
 rename_i z b hz hb
 cases hq:(flat z&&z.cells.toList.all isCell&& !Nat.beq (n*z.cells.toList.length) 0&&Nat.ble b.wf a.off&&Nat.ble (a.off+n*z.cells.toList.length) b.cs.length&&a.spot.isNone)<;>simp only [hq,cond_true,cond_false] at ho
 case false=>simp at ho
 simp only [Bool.and_eq_true,Bool.not_eq_true',Nat.ble_eq] at hq
 obtain⟨⟨⟨⟨⟨q1,q2⟩,q3⟩,q4⟩,q5⟩,q6⟩:=hq
 simp at ho
 obtain⟨_,rfl,rfl⟩:=ho
 have hnz:n*z.cells.toList.length≠0:=fun x=>by rw[x] at q3;exact absurd q3 (by decide)
 have hn:n≠0:=fun x=>hnz (by rw[x,Nat.zero_mul])
 have hzs:0<z.cells.size:=by
  rcases Nat.eq_zero_or_pos z.cells.size with h0|h0
  ·exact absurd (by rw[Array.length_toList,h0,Nat.mul_zero]) hnz
  ·exact h0
 rcases hx.slice_or with⟨a',dc',rfl,s1,s2,s3,s4,en,hen,s5⟩|⟨_,_,h0,_,hsp⟩
 case inr=>exact absurd h0 hn
 have hadr:a'.spot=none/\a'.block=en.block/\a'.off=en.base+a.off:=by
  rcases s5 with s5|s5
  ·omega
  ·exact⟨s2,s5.1,s5.2.1⟩
 obtain⟨i,hi,hzi⟩: ∃i,P.info? elem=some i/\i.zero=some z:=by
  cases hh:P.info? elem with
  |none=>rw[hh] at hz;cases hz
  |some i=>rw[hh] at hz;exact⟨i,rfl,hz⟩
 have hall:(jQ n z.cells.toList).all isCell=true:=by
  have key: ∀m,(jQ m z.cells.toList).all isCell=true:=fun m=>by
   induction m with
   |zero=>rfl
   |succ m ih=>simp only [jQ,List.all_append,q2,Bool.true_and];exact ih
  exact key n
 obtain⟨w',r1,r2⟩:=pD h hb hen (Ck φ (uU q1) n) hall q4 (by rw[mR];exact q5) (.inr hadr)
 refine fV.val (L:= [a.block]) ?_ rfl r2 (.tuple .nil)
 have hzc:(Builtin.zeroCells z.cells n).toList=jQ n z.cells.toList:=by
  have:Builtin.zeroCells z.cells n=(jQ n z.cells.toList).toArray:=oF n z.cells hzs
  rw[this]
 simp only [Builtin.clear_]
 obtain⟨n,rfl⟩: ∃m,n=m+1:=⟨n-1,by omega⟩
 simp [a0,aR t hdT,dQ elem hi hzi,hzc,r1]
theorem Le(w:World)(c:Array Value)(t:TypeId)(n:Nat):(w.alloc (.cells c t (0,0))).freeze ⟨w.heap.size,n,none⟩ 1=w.alloc (.cells c t (n,n+1)):=by
 have h1:((1:Nat)=0)=False:=by simp
 simp only [World.freeze,World.alloc,h1,if_false]
 congr 1
 apply Array.ext_getElem?
 intro j
 rw[Array.getElem?_modify]
 simp only [Array.getElem?_push]
 by_cases hj:w.heap.size=j
 ·subst hj;simp
 ·have: ¬j=w.heap.size:=fun x=>hj x.symm
  simp [hj,this]
theorem qR: ∀{n:Nat} {e u:TypeId},nX P n e u=true->P.cellsOf e≠0/\ ∀{d count:Nat},n<=d->1<=count->rowAt P (sameLayout P P.depth · u) d e count 0 1=true
 |0,_,_,h=>by simp [nX] at h
 |n+1,e,u,h=>by
  unfold nX at h
  simp only [Bool.and_eq_true,Bool.or_eq_true,Bool.not_eq_true'] at h
  obtain⟨h0,h⟩:=h
  have hs:P.cellsOf e≠0:=fun x=>by rw[x] at h0;exact absurd h0 (by decide)
  refine⟨hs,fun{d count} hd hc=> ?_⟩
  obtain⟨d,rfl⟩: ∃d',d=d'+1:=⟨d-1,by omega⟩
  rcases h with h|h
  ·have he:e=u:=Nat.eq_of_beq_eq_true h
   subst he
   have hdp:P.depth=(2*(P.types.size+Made.depth)+1)+1:=rfl
   simp [rowAt,hs,hc,hdp,sameLayout]
  ·split at h
   ·rename_i fields hf
    split at h
    ·rename_i f a0
     simp only [Bool.and_eq_true,Bool.not_eq_true'] at h
     obtain⟨⟨h1,h2⟩,h3⟩:=h
     obtain⟨h4,h5⟩:=qR h3
     have h2':f.offset=0:=Nat.eq_of_beq_eq_true h2
     have hk:=h5 (d:=d) (count:=1) (by omega) (Nat.le_refl _)
     have hlt:0<fields.size:=by
      rcases Nat.lt_or_ge 0 fields.size with q|q
      ·exact q
      ·rw[Array.getElem?_eq_none q] at a0;cases a0
     have hfe:fields[0]=f:=by
      rw[Array.getElem?_eq_getElem hlt] at a0;exact Option.some.inj a0
     have hany:(fields.any fun f=>decide (f.offset<=0)&&decide (0<f.offset+P.cellsOf f.type)&&rowAt P (sameLayout P P.depth · u) d f.type 1 (0-f.offset) 1)=true:=by
      rw[Array.any_eq_true]
      refine⟨0,hlt,?_⟩
      rw[hfe]
      simp [h2',hk]
      omega
     unfold rowAt
     simp only [hs,if_false,Nat.zero_div,Nat.zero_mod,hf,h1,Bool.not_false,Bool.true_and]
     simp only [decide_eq_true (show 0<count by omega),Bool.true_and]
     rw[Bool.or_eq_true]
     exact .inr hany
    ·cases h
   ·cases h
theorem Dm{e u:TypeId}(h:nX P 3 e u=true){count:Nat}(hc:1<=count):liesAt P P.depth e count 0 u 1=true:=by
 have hdp:P.depth=(2*(P.types.size+Made.depth)+1)+1:=rfl
 have hmd:1<=Made.depth:=by decide
 have:=(qR h).2 (d:=P.depth) (count:=count) (by rw[hdp];omega) hc
 have hx: ∀k:Nat,P.depth=k+1->liesAt P (k+1) e count 0 u 1=true:=fun k hk=>by
  simp only [liesAt,this,Bool.true_or]
 have hk:=hx _ hdp
 rw[<-hdp] at hk
 exact hk
theorem wL: ∀(ns:List Int) (a:Addr) (acc:ByteArray),(∀j n,ns[j]?=some n->w.cell? (a.add j)=some (.int .u8 n))->
  (loadBytes a acc ns.length).run P w= .ok ⟨acc.data++(ns.map fun n=>UInt8.ofNat n.toNat).toArray⟩ w
 | [],a,acc,_=>by simp [loadBytes]
 |x::l,a,acc,h=>by
  have h0:w.cell? a=some (.int .u8 x):=by
   have:=h 0 x rfl
   simpa [Addr.add] using this
  have ih:=wL l (a.add 1) (acc.push x.toNat.toUInt8) (fun j y hy=>by
   have:=h (j+1) y (by simpa using hy)
   have e:(a.add 1).add j=a.add (j+1):=by
    unfold Addr.add
    by_cases hj:j=0
    ·subst hj;simp
    ·simp [hj];omega
   rw[e];exact this)
  simp only [List.length_cons,loadBytes,Sem.run_bind,run_load,h0,Result.andThen]
  rw[ih]
  congr 1
  apply ByteArray.ext
  simp [ByteArray.push]
theorem xF: ∀{l:List Value} {bs:List UInt8},gL l=some bs-> ∃ns:List Int,l=ns.map (Value.int .u8)/\bs=ns.map fun n=>UInt8.ofNat n.toNat:=by
 intro l
 induction l with
 |nil=>intro bs hh;simp [gL] at hh;exact⟨[],by simp [hh]⟩
 |cons v l ih=>
  intro bs hh
  unfold gL at hh
  split at hh<;>try (cases hh;done)
  ·rename_i heq;cases heq
  ·rename_i n l' heq
   cases heq
   split at hh
   ·rename_i r' hr'
    simp at hh;subst hh
    obtain⟨ns,e1,e2⟩:=ih hr'
    exact⟨n::ns,by simp [e1],by simp [e2]⟩
   ·simp at hh
theorem Jz(h:gI P GL B φ M w){argTypes:Array TypeId}{type:TypeId}{x x' y y':Value}(hx:bA φ x x')(hy:bA φ y y'){k:Nat}{r:AR}(ho:Fx P argTypes.toList x y M=some (k,r,M')):
  fV P GL B φ M M' w r ((do pure (.value (<-Builtin.unsafeString_ argTypes type #[x',y'])):Sem Next).run P w):=by
 unfold Fx at ho
 split at ho
 ·rename_i pt _ a n hat
  have h0:argTypes[0]?=some pt:=by
   rw[<-Array.getElem?_toList,hat];rfl
  cases hy.of_flat rfl
  obtain⟨a',rfl,s1,s2,e,he,hab,hao⟩:=hx.ptr_inv
  split at ho
  ·rename_i et b hpt hb
   split at ho
   ·rename_i l hl
    split at ho
    ·rename_i bs hbs
     generalize hq:(decide (0<n)&&decide (n<=1099511627776)&&Nat.beq b.elem et&&b.app&&Nat.beq (P.cellsOf et) 1)=q at ho
     cases q<;>simp only [cond_true,cond_false] at ho
     ·simp at ho
     ·simp only [Bool.and_eq_true,decide_eq_true_eq,Nat.beq_eq] at hq
      obtain⟨⟨⟨⟨q1,q2⟩,q3⟩,q4⟩,q5⟩:=hq
      simp at ho
      obtain⟨rfl,rfl,rfl⟩:=ho
      obtain⟨e',he',hr⟩:=h.blk _ _ hb
      rw[he] at he';cases he'
      obtain⟨c,lo,hi,c1,c2,c3,c4⟩:=hr.cells
      have hlen:=(oK hl).2
      obtain⟨ns,e1,e2⟩:=xF hbs
      have hnl:ns.length=n.toNat:=by rw[<-hlen,e1];simp
      have hown:b.app=true\/b.wf<b.cs.length:= .inl q4
      have hlt:=hr.lt
      have hBe:=hr.own hown
      have hcell: ∀j m,ns[j]?=some m->w.cell? (a'.add j)=some (.int .u8 m):=fun j m hj=>by
       have hv:l[j]?=some (.int .u8 m):=by rw[e1,List.getElem?_map,hj];rfl
       obtain⟨g1,g2⟩:=jS hl j _ hv
       obtain⟨v',k1,k2⟩:=Ga hr (a':=a'.add j) (by unfold Addr.add;split<;>simp_all) (by unfold Addr.add;split<;>simp_all) (j:=a.off+j) (by unfold Addr.add;split<;>simp_all<;>omega) g1
       rw[k1,k2.int_inv]
      have hsz:e.base+(a.off+n.toNat)<=c.size:=by
       have a7:l≠ []:=fun x=>by rw[x] at hlen;simp at hlen;omega
       have h1:=jS hl (n.toNat-1) l[n.toNat-1] (List.getElem?_eq_getElem (by omega))
       have h2:a.off+(n.toNat-1)<b.cs.length:=by
        rcases Nat.lt_or_ge (a.off+(n.toNat-1)) b.cs.length with q|q
        ·exact q
        ·rw[List.getElem?_eq_none q] at h1;cases h1.1
       have:=hr.len
       omega
      have hsh:w.shape? a'.block=some (et,c.size):=by
       unfold World.shape?
       rw[hab,c1,q3]
      have hlies:liesAt P P.depth et (c.size/P.cellsOf et) a'.off et n.toNat=true:=by
       have hdp:P.depth=(2*(P.types.size+Made.depth)+1)+1:=rfl
       rw[hdp]
       simp only [liesAt,Bool.or_eq_true]
       left
       rw[hdp]
       simp [rowAt,q5,sameLayout,hao]
       left
       omega
      have hrun:(Builtin.unsafeString_ argTypes type #[.pointer (some a'),.int .i64 n]).run P w= .ok (.string ⟨bs.toArray⟩) (w.freeze a' n.toNat):=by
       have hmax:IntKind.i64.max=9223372036854775807:=rfl
       have hneg: ¬n<0:=by omega
       have a0:n≠0:=by omega
       have hbig: ¬(9223372036854775807:Int)<n:=by omega
       have hlb:=wL (P:=P) (w:=w) ns a' .empty hcell
       rw[hnl] at hlb
       change Sem.run P (Bind.bind (asInt (.int .i64 n)) _) w=_
       simp [asInt,asIntOf,hmax,h0,hbig,hneg,a0,variablesAt,hsh,elemOf,run_underlying hpt,hlies,hlb,e2]
      obtain⟨lo',hi',hfz⟩: ∃lo' hi',∀j,(w.freeze a' n.toNat).heap[j]?=if e.block=j then some (.cells c b.elem (lo',hi')) else w.heap[j]?:=by
       refine⟨if lo==hi then a'.off else min lo a'.off,if lo==hi then a'.off+n.toNat else max hi (a'.off+n.toNat),fun j=> ?_⟩
       have a0: ¬n.toNat=0:=by omega
       simp only [World.freeze,a0,if_false,Array.getElem?_modify,hab]
       by_cases hj:e.block=j
       ·subst hj
        simp only [if_true,c1,Option.map_some]
        split<;>rfl
       ·simp [hj]
      have hfs:(w.freeze a' n.toNat).heap.size=w.heap.size:=by
       have a0: ¬n.toNat=0:=by omega
       simp [World.freeze,a0]
      have hfo:(w.freeze a' n.toNat).os=w.os/\(w.freeze a' n.toNat).tape=w.tape/\(w.freeze a' n.toNat).output=w.output:=by
       have a0: ¬n.toNat=0:=by omega
       simp [World.freeze,a0]
      refine fV.val (φ':=φ) (L:= [a.block]) hrun rfl ?_ (.leaf rfl)
      refine⟨fun _ _=>rfl,Nat.le_refl _,⟨fun id' b' hb'=> ?_,fun a4 a6 b1 b2 e1 e2 hne a1 a2 ho a5 a3=> ?_,h.glob,by rw[hfs];exact h.size,fun id' b' hb'=> ?_,fun x hx=>(h.rnd x hx).step (dC.le_refl _) (by rw[hfz,if_neg ((h.rnd x hx).ne hr)])⟩,⟨hfo.1,hfo.2.1,hfo.2.2,by rw[hfs];exact Nat.le_refl _,fun j hj=> ?_⟩,fun i e h1 h2=>(by have:i<M.next:=h2;omega),fun t ht=>by simp at ht;subst ht;exact h.ids _ _ hb⟩
      ·rw[iK,eN (fX hb)] at hb'
       by_cases hid:id'=a.block
       ·simp [hid] at hb'
        subst hb';subst hid
        refine⟨e,he,.inl ⟨hr.esz,⟨c,lo',hi',by rw[hfz,if_pos rfl],c2,c3,fun hw=> ?_⟩,hr.len,fun hw=> ?_,hr.whole,hr.real⟩⟩
        ·rcases hw with hw|hw
         ·cases hw
         ·exact absurd hw (Nat.lt_irrefl _)
        ·rcases hw with hw|hw
         ·cases hw
         ·exact absurd hw (Nat.lt_irrefl _)
       ·rw[if_neg hid] at hb'
        obtain⟨e',he',hr'⟩:=h.blkA id' b' hb'
        rcases h.sepA a.block id' b b' e e' (fun x=>hid x.symm) (fX hb) hb' hown he he' with hs|hs
        ·refine⟨e',he',hr'.keep (dC.le_refl φ) ?_⟩
         rw[hfz,if_neg hs]
        ·by_cases hbe:e.block=e'.block
         ·exact⟨e',he',.inl ((hr'.ro hs.2.1).under hs.2.1 hs.2.2.1 c1 hbe (by rw[hfz,if_pos rfl]) rfl fun _ _=>rfl)⟩
         ·refine⟨e',he',hr'.keep (dC.le_refl φ) ?_⟩
          rw[hfz,if_neg hbe]
      ·rw[iK,eN (fX hb)] at a1 a2
       by_cases i1:a4=a.block
       ·simp [i1] at a1
        subst a1
        rcases ho with ho|ho
        ·cases ho
        ·exact absurd ho (Nat.lt_irrefl _)
       ·rw[if_neg i1] at a1
        by_cases i2:a6=a.block
        ·subst i2
         rw[he] at a3;cases a3
         exact .inl ((h.sepA a4 a.block b1 b e1 e i1 a1 (fX hb) ho a5 he).ne hown)
        ·rw[if_neg i2] at a2
         exact h.sepA a4 a6 b1 b2 e1 e2 hne a1 a2 ho a5 a3
      ·rw[iK,eN (fX hb)] at hb'
       show id'<M.next
       by_cases hi:id'=a.block
       ·rw[hi];exact h.ids _ b hb
       ·rw[if_neg hi] at hb';exact h.idsA _ _ hb'
      ·by_cases hje:e.block=j
       ·exact .inr ⟨hje▸hr.own hown,a.block,by simp,e,he,hje⟩
       ·left;rw[hfz,if_neg hje]
    ·simp at ho
   ·simp at ho
  ·simp at ho
 ·simp at ho
theorem Dh(h:gI P GL B φ M w)(hg:iX φ M M'){src dst:TypeId}{x x':Value}(hx:bA φ x x'){k:Nat}{r:AR}(ho:pP P src dst x M=some (k,r,M')):
  k=1/\fV P GL B φ M M' w r ((do pure (.value (<-convert src dst x')):Sem Next).run P w):=by
 unfold pP at ho
 split at ho
 ·rename_i e s hsrc hdst
  cases hx.of_flat rfl
  split at ho
  ·rename_i i he hi
   cases hq:(Nat.beq i.size 1&&Nat.ble s.size (2^40))<;>simp only [hq,cond_true,cond_false] at ho
   ·simp at ho
   ·simp only [Bool.and_eq_true,Nat.beq_eq,Nat.ble_eq] at hq
    simp [made] at ho
    obtain⟨rfl,rfl,rfl⟩:=ho
    let q:Question:= .appendCap s.size 0 e
    have hcap:s.size<=q.cut (w.tape w.drawn q):=by show s.size<=s.size+_;omega
    let c:Array Value:=(s.data.map fun b=>Value.int .u8 b.toNat)++Array.replicate (q.cut (w.tape w.drawn q)-s.size) (.int .u8 0)
    have hcsz:c.size=q.cut (w.tape w.drawn q):=by
     have:s.data.size=s.size:=rfl
     simp [c];omega
    have hbl:(iT s s.size).length=s.size:=by
     have h1:s.data.toList.length=s.size:=rfl
     simp only [iT,List.length_map,List.length_take,h1,Nat.min_self]
    obtain⟨φ',p1,p2⟩:=h.alloc (hg _ (Nat.le_refl _) (Nat.lt_succ_self _)) {cs:=iT s s.size,elem:=e,esz:=i.size,wf:=0,app:=true} c c.size (c.size+1) (mL.drew w) (by simp only [hbl];omega)
     (fun j v hj=>by
      have hjl:j<s.size:=by
       rcases Nat.lt_or_ge j (iT s s.size).length with h|h
       ·omega
       ·simp only at hj;rw[List.getElem?_eq_none h] at hj;cases hj
      refine⟨v,?_,?_⟩
      ·have:s.data.size=s.size:=rfl
       rw[Array.getElem?_append_left (by simp;omega)]
       simp only [iT,List.getElem?_map] at hj
       rw[List.getElem?_take_of_lt hjl] at hj
       simpa using hj
      ·simp only [iT,List.getElem?_map] at hj
       obtain⟨b,_,rfl⟩:=Option.map_eq_some_iff.1 hj
       exact .leaf rfl) (fun j _ h2=>by simp only [hq.1,Un,show Nat.beq 1 1=true from rfl,cond_true] at h2;omega)
    refine⟨rfl,fV.val (L:= []) (v':= .slice (some ⟨w.heap.size,0,none⟩) s.size (q.cut (w.tape w.drawn q))) ?_ rfl p2 (.slice ⟨rfl,rfl,hcap,.inl rfl,_,p1,.inr ⟨rfl,by simp,by simp [hq.1];omega⟩⟩)⟩
    have hf:=Le w.drew c e c.size
    have e1:w.drew.heap.size=w.heap.size:=rfl
    rw[e1] at hf
    have hsh:(w.drew.alloc (.cells c e (0,0))).shape? w.heap.size=some (e,c.size):=by
     have:=heap_alloc_new w.drew (.cells c e (0,0))
     rw[e1] at this
     unfold World.shape?
     rw[this]
    simp only [convert,Sem.run_bind,aR src hsrc,aR dst hdst,aR e he,Result.andThen_ok,Conv.stringToBytes,run_choose,Question.forced,Bool.false_eq_true,if_false,vD,markStringish,run_shape]
    show Result.andThen _ _=_
    have e2:({w with drawn:=w.drawn+1}:World)=w.drew:=rfl
    simp only [e2]
    have e3:(s.data.map fun b=>Value.int .u8 b.toNat)++Array.replicate (q.cut (w.tape w.drawn q)-s.size) (.int .u8 0)=c:=rfl
    have e4:Question.appendCap s.size 0 e=q:=rfl
    simp only [e4,e3,hsh,run_freeze,Result.andThen_ok,hf,Sem.run_pure]
  ·simp at ho
 ·rename_i e a len cap hsrc hdst
  cases a0:a.spot.isNone
  ·exfalso
   rw[a0] at ho
   simp only [cond_false] at ho
   split at ho<;>simp at ho
  rw[a0] at ho
  simp only [cond_true] at ho
  obtain⟨a',cap',rfl,s1,s2,s3,s4,en,hen,s5⟩:=hx.slice_inv (by simpa using a0)
  split at ho
  ·rename_i b he hb
   split at ho
   ·rename_i l hl
    split at ho
    ·rename_i bs hbs
     simp at ho
     obtain⟨rfl,rfl,rfl⟩:=ho
     obtain⟨en',hen',hr⟩:=h.blk _ _ hb
     rw[hen] at hen';cases hen'
     have hints: ∀{l:List Value} {bs:List UInt8},gL l=some bs-> ∃ns:List Int,l=ns.map (Value.int .u8)/\bs=ns.map fun n=>UInt8.ofNat n.toNat:=by
      intro l
      induction l with
      |nil=>intro bs hh;simp [gL] at hh;exact⟨[],by simp [hh]⟩
      |cons v l ih=>
       intro bs hh
       unfold gL at hh
       split at hh<;>try (cases hh;done)
       ·rename_i heq;cases heq
       ·rename_i n l' heq
        cases heq
        split at hh
        ·rename_i r' hr'
         simp at hh;subst hh
         obtain⟨ns,e1,e2⟩:=ih hr'
         exact⟨n::ns,by simp [e1],by simp [e2]⟩
        ·simp at hh
     obtain⟨ns,e1,e2⟩:=hints hbs
     have hload:(loadCells a' len).run P w= .ok (ns.map (Value.int .u8)).toArray w:=by
      by_cases h0:len=0
      ·subst h0
       simp [range,dA] at hl
       rw[hl] at e1
       have:ns= []:=by cases ns<;>simp at e1⊢
       simp [this,loadCells,loadCellsFrom]
      ·obtain⟨t1,t2,_⟩:=s5.resolve_left (by omega)
       obtain⟨r',c1,c2,_⟩:=Ap hr s2 t1 t2 hl
       have:r'=l:=c2.of_flat (by
        rw[e1]
        clear c1 c2 e1 e2 hl hbs
        induction ns with
        |nil=>rfl
        |cons n ns ih=>simpa [cX,flat] using ih)
       rw[c1,this,e1]
     refine⟨rfl,fV.val (L:= []) (v':= .string ⟨bs.toArray⟩) ?_ rfl (Post.refl h) (.leaf rfl)⟩
     rw[run_convert_bytes_string w src dst e _ len cap' hsrc he hdst,run_bytesToString w a' len cap' ns hload]
     congr 2
     rw[e2]
     have hfold: ∀(ns:List Int) (s:ByteArray),ns.foldl (fun r n=>r.push (UInt8.ofNat n.toNat)) s=⟨s.data++(ns.map fun n=>UInt8.ofNat n.toNat).toArray⟩:=by
      intro ns
      induction ns with
      |nil=>intro s;simp
      |cons n ns ih=>
       intro s
       simp only [List.foldl_cons,ih]
       congr 1
       apply Array.ext'
       simp [ByteArray.push]
     rw[hfold]
     congr 1
     apply Array.ext'
     simp [ByteArray.empty,ByteArray.emptyWithCapacity]
     rfl
    ·simp at ho
   ·simp at ho
  ·simp at ho
 ·rename_i t a hsrc hdst
  obtain⟨a',rfl,s1,s2,e,he,hab,hao⟩:=hx.ptr_inv
  split at ho
  ·rename_i j b hj hb
   cases hq:(Nat.beq j.size 0|| !(Nat.blt a.off b.cs.length))<;>simp only [hq,cond_true,cond_false] at ho
   ·simp only [Bool.or_eq_false_iff,Bool.not_eq_false'] at hq
    simp at ho
    obtain⟨rfl,rfl,rfl⟩:=ho
    obtain⟨e',he',hr⟩:=h.blk _ _ hb
    rw[he] at he';cases he'
    obtain⟨c,lo,hi,c1,c2,c3,c4⟩:=hr.cells
    have hlen:=hr.len
    have hlt:a.off<b.cs.length:=Nat.le_of_ble_eq_true hq.2
    refine⟨rfl,fV.val (L:= []) (Go.Lib.run_to_unsafe (P:=P) w a' hsrc hdst hj (fun x=>by rw[x] at hq;exact absurd hq.1 (by decide)) (e:=b.elem) (cells:=c.size) ?_ (by omega)) rfl (Post.refl h) (.ptr ⟨s1,s2,e,he,hab,hao⟩)⟩
    unfold World.shape?
    rw[hab,c1]
   ·simp at ho
  ·simp at ho
 ·rename_i u a hsrc hdst
  obtain⟨a',rfl,s1,s2,e,he,hab,hao⟩:=hx.ptr_inv
  split at ho
  ·rename_i j b hj hb
   cases hq:(Nat.beq j.size 0|| !(Nat.beq b.esz 0)|| !(Nat.beq a.off 0)|| !(Nat.ble (P.cellsOf b.elem) b.cs.length)|| !(nX P 3 b.elem u))<;>simp only [hq,cond_true,cond_false] at ho
   ·simp only [Bool.or_eq_false_iff,Bool.not_eq_false',Nat.beq_eq,Nat.ble_eq] at hq
    obtain⟨⟨⟨⟨q1,q2⟩,q3⟩,q4⟩,q5⟩:=hq
    simp at ho
    obtain⟨rfl,rfl,rfl⟩:=ho
    obtain⟨e',he',hr⟩:=h.blk _ _ hb
    rw[he] at he';cases he'
    obtain⟨c,lo,hi,c1,c2,c3,c4⟩:=hr.cells
    have hlen:=hr.len
    have hs:=(qR q5).1
    have hbase:e.base=0:=hr.whole q2 fun x=>by rw[x] at q4;simp at q4;exact hs q4
    have hoff:a'.off=0:=by omega
    have hcount:1<=c.size/P.cellsOf b.elem:=(Nat.one_le_div_iff (by omega)).2 (by omega)
    refine⟨rfl,fV.val (L:= []) (Go.Lib.run_from_unsafe (P:=P) w a' hsrc hdst hj (e:=b.elem) (cells:=c.size) ?_ (by rw[hoff];exact Dm q5 hcount)) rfl (Post.refl h) (.ptr ⟨s1,s2,e,he,hab,hao⟩)⟩
    unfold World.shape?
    rw[hab,c1]
   ·simp at ho
  ·simp at ho
 ·simp at ho
inductive rL(φ:dC):Option Value->Option Value->Prop where
 |none:rL φ none none
 |some {v v':Value} (h:bA φ v v'):rL φ (some v) (some v')
theorem cN{x x':Option Value}(hx:rL φ x x'){most dflt r:Nat}(h:lW x most dflt=some r){y:Nat}(hy:most<=y)(code:BoundsCode):
  (x=none/\x'=none/\r=dflt)\/(∃v',x'=some v'/\x.isSome=true/\(Instr.sliceBound v' y code).run P w= .ok r w/\r<=most):=by
 cases hx with
 |none=>left;simp [lW] at h;exact⟨rfl,rfl,h.symm⟩
 |some hv=>
  right
  rename_i v v'
  unfold lW at h
  split at h
  ·simp at*
  ·rename_i k i heq
   cases heq
   cases hv.int_inv
   cases hb:(decide (0<=i)&&decide (i<=(most:Int)))<;>simp only [hb,cond_true,cond_false] at h
   ·simp at h
   ·simp at hb h
    subst h
    refine⟨_,rfl,rfl,?_,by omega⟩
    have h2:0<=i/\i<=(y:Int):=⟨hb.1,by omega⟩
    simp [Instr.sliceBound,asIntOf,h2]
  ·simp at h
theorem Jv(h:gI P GL B φ M w){t:TypeId}{x x':Value}(hx:bA φ x x'){lo lo' hi hi' mx mx':Option Value}(hlo:rL φ lo lo')(hhi:rL φ hi hi')(hmx:rL φ mx mx'){v:Value}
  (ho:uJ P t x lo hi mx M=some v): ∃v',(Instr.sliceAt t x' lo' hi' mx').run P w= .ok v' w/\bA φ v v':=by
 unfold uJ at ho
 cases hmh:(mx.isSome&&hi.isNone)<;>simp only [hmh,cond_true,cond_false] at ho
 case true=>simp at ho
 split at ho
 ·rename_i elem a len cap ht
  cases a0:a.spot.isNone
  ·exfalso
   rw[a0] at ho
   simp only [Bool.and_false,cond_false] at ho
   split at ho
   ·split at ho
    ·split at ho<;>simp at ho
    ·simp at ho
   ·simp at ho
  rw[a0] at ho
  simp only [Bool.and_true] at ho
  obtain⟨a',cap',rfl,s1,s2,s3,s4,en,hen,s5⟩:=hx.slice_inv (by simpa using a0)
  split at ho
  ·rename_i e b m he hb hm
   split at ho
   ·rename_i hh hhh
    split at ho
    ·rename_i l hl
     cases hq:Nat.beq b.esz e.size<;>simp only [hq,cond_true,cond_false] at ho
     ·simp at ho
     ·have hq':b.esz=e.size:=Nat.eq_of_beq_eq_true hq
      simp only [Option.some.injEq] at ho
      obtain⟨en',hen',hr⟩:=h.blk _ _ hb
      rw[hen] at hen';cases hen'
      have hesz:=hr.esz
      have hM:=cN (P:=P) (w:=w) hmx hm (y:=cap') s3 .slice3Acap
      --the concrete bounds
      have key: ∃m':Nat,hh<=m'/\l<=hh/\m'<=cap'/\(mx.isSome=true->m'=m)/\(mx.isSome=false->m'=cap'/\m=len)/\hh<=m/\
        (Instr.sliceBounds true len cap' lo' hi' mx').run P w= .ok (l,hh,m') w:=by
       cases hmx with
       |none=>
        simp [lW] at hm
        subst hm
        have hH:=cN (P:=P) (w:=w) hhi hhh (y:=cap') s3 .sliceAcap
        rcases hH with⟨rfl,rfl,e0⟩|⟨v',rfl,hsome,hrun,hle⟩
        ·have hL:=cN (P:=P) (w:=w) hlo hl (y:=hh) (Nat.le_refl _) .sliceB
         rcases hL with⟨rfl,rfl,rfl⟩|⟨u,rfl,_,lrun,lle⟩
         ·exact⟨cap',by omega,Nat.zero_le _,Nat.le_refl _,by simp,by simp,by omega,by simp [Instr.sliceBounds,e0]⟩
         ·rw[e0] at lrun
          exact⟨cap',by omega,lle,Nat.le_refl _,by simp,by simp,by omega,by simp [Instr.sliceBounds,e0,lrun]⟩
        ·have hL:=cN (P:=P) (w:=w) hlo hl (y:=hh) (Nat.le_refl _) .sliceB
         rcases hL with⟨rfl,rfl,rfl⟩|⟨u,rfl,_,lrun,lle⟩
         ·exact⟨cap',by omega,Nat.zero_le _,Nat.le_refl _,by simp,by simp,hle,by simp [Instr.sliceBounds,hrun]⟩
         ·exact⟨cap',by omega,lle,Nat.le_refl _,by simp,by simp,hle,by simp [Instr.sliceBounds,hrun,lrun]⟩
       |some hmv=>
        rcases hM with⟨hc,_⟩|⟨mv,hmv',_,mrun,mle⟩
        ·cases hc
        ·cases hmv'
         have hH:=cN (P:=P) (w:=w) hhi hhh (y:=m) (Nat.le_refl _) .slice3B
         rcases hH with⟨rfl,rfl,rfl⟩|⟨v',rfl,hsome,hrun,hle⟩
         ·simp at hmh
         ·have hL:=cN (P:=P) (w:=w) hlo hl (y:=hh) (Nat.le_refl _) .slice3C
          rcases hL with⟨rfl,rfl,rfl⟩|⟨u,rfl,_,lrun,lle⟩
          ·exact⟨m,hle,Nat.zero_le _,by omega,by simp,by simp,hle,by simp [Instr.sliceBounds,mrun,hrun]⟩
          ·exact⟨m,hle,lle,by omega,by simp,by simp,hle,by simp [Instr.sliceBounds,mrun,hrun,lrun]⟩
      obtain⟨m',k1,k2,k3,k4,k5,k6,k7⟩:=key
      subst ho
      have hA: ∀(a:Addr) (k:Nat),a.spot=none->(a.add k).spot=none/\(a.add k).block=a.block/\(a.add k).off=a.off+k:=fun a k ha=>by
       unfold Addr.add;split<;>simp_all
      refine⟨.slice (if m'=l then some a' else some (a'.add (l*e.size))) (hh-l) (m'-l),?_,?_⟩
      ·simp only [Instr.sliceAt,Sem.run_bind,aR t ht,Result.andThen_ok,Instr.slice,k7,cG elem he,Sem.run_pure]
       by_cases hml:m'=l<;>simp [hml]
      ·have hflag:(bif mx.isSome then m-l+1 else bif Nat.beq hh len&& !(Nat.beq cap len) then cap-l else hh-l)=hh-l\/
         (bif mx.isSome then m-l+1 else bif Nat.beq hh len&& !(Nat.beq cap len) then cap-l else hh-l)=m'-l+1:=by
        cases hms:mx.isSome
        ·obtain⟨q1,q2⟩:=k5 hms
         cases hf:(Nat.beq hh len&& !(Nat.beq cap len))
         ·left;rfl
         ·right
          simp only [Bool.and_eq_true,Bool.not_eq_true'] at hf
          have hcl:cap≠len:=fun hx=>by simp [hx] at hf
          rcases s4 with s4|s4
          ·exact absurd s4 hcl
          ·show cap-l=m'-l+1
           omega
        ·right
         show m-l+1=m'-l+1
         rw[k4 hms]
       by_cases hml:m'=l
       ·rw[if_pos hml]
        exact .slice ⟨(hA a _ s1).1,s2,by omega,hflag,en,by rw[(hA a _ s1).2.1];exact hen,.inl (by omega)⟩
       ·rw[if_neg hml]
        obtain⟨t1,t2,t3⟩:=s5.resolve_left (by omega)
        refine .slice ⟨(hA a _ s1).1,(hA a' _ s2).1,by omega,hflag,en,by rw[(hA a _ s1).2.1];exact hen,.inr ⟨by rw[(hA a' _ s2).2.1];exact t1,by rw[(hA a' _ s2).2.2,(hA a _ s1).2.2];omega,?_⟩⟩
        rw[(hA a _ s1).2.2,hesz,hq']
        rw[hesz,hq'] at t3
        have h1:l*e.size+(m'-l)*e.size=m'*e.size:=by rw[<-Nat.add_mul];congr 1;omega
        have h2:m'*e.size<=cap'*e.size:=Nat.mul_le_mul_right _ k3
        omega
    ·simp at ho
   ·simp at ho
  ·simp at ho
 ·rename_i elem ht
  have hx':=hx.of_flat rfl
  subst hx'
  split at ho
  ·rename_i e hh he hhh
   split at ho
   ·rename_i l hl
    cases ho
    cases hmx
    have hH:=cN (P:=P) (w:=w) hhi hhh (y:=0) (Nat.le_refl _) .sliceAcap
    have h0:hh=0/\(Instr.sliceBounds true 0 0 lo' hi' none).run P w= .ok (0,0,0) w:=by
     rcases hH with⟨rfl,rfl,e0⟩|⟨v',rfl,hsome,hrun,hle⟩
     ·subst e0
      have hL:=cN (P:=P) (w:=w) hlo hl (y:=0) (Nat.le_refl _) .sliceB
      rcases hL with⟨rfl,rfl,rfl⟩|⟨u,rfl,_,lrun,lle⟩
      ·exact⟨rfl,by simp [Instr.sliceBounds]⟩
      ·have:l=0:=by omega
       subst this
       exact⟨rfl,by simp [Instr.sliceBounds,lrun]⟩
     ·have:hh=0:=by omega
      subst this
      have hL:=cN (P:=P) (w:=w) hlo hl (y:=0) (Nat.le_refl _) .sliceB
      rcases hL with⟨rfl,rfl,rfl⟩|⟨u,rfl,_,lrun,lle⟩
      ·exact⟨rfl,by simp [Instr.sliceBounds,hrun]⟩
      ·have:l=0:=by omega
       subst this
       exact⟨rfl,by simp [Instr.sliceBounds,hrun,lrun]⟩
    refine⟨.slice none 0 0,?_,.leaf rfl⟩
    simp [Instr.sliceAt,aR t ht,Instr.slice,h0.2,cG elem he]
   ·cases ho
  ·cases ho
 ·rename_i n elem a ht
  obtain⟨a',rfl,s1,s2,en,hen,t1,t2⟩:=hx.ptr_inv
  split at ho
  ·rename_i e b m he hb hm
   split at ho
   ·rename_i hh hhh
    split at ho
    ·rename_i l hl
     cases hq:(Nat.beq b.esz e.size&&Nat.ble (a.off+n*e.size) b.cs.length)<;>simp only [hq,cond_true,cond_false] at ho
     ·simp at ho
     ·simp only [Bool.and_eq_true,Nat.beq_eq,Nat.ble_eq] at hq
      simp only [Option.some.injEq] at ho
      obtain⟨en',hen',hr⟩:=h.blk _ _ hb
      rw[hen] at hen';cases hen'
      have hesz:=hr.esz
      have hlen:=hr.len
      have key:hh<=m/\l<=hh/\m<=n/\(Instr.sliceBounds false n n lo' hi' mx').run P w= .ok (l,hh,m) w:=by
       have hM:=cN (P:=P) (w:=w) hmx hm (y:=n) (Nat.le_refl _) .slice3Alen
       rcases hM with⟨rfl,rfl,rfl⟩|⟨mv,rfl,msome,mrun,mle⟩
       ·have hH:=cN (P:=P) (w:=w) hhi hhh (y:=m) (Nat.le_refl _) .sliceAlen
        rcases hH with⟨rfl,rfl,rfl⟩|⟨v',rfl,hsome,hrun,hle⟩
        ·have hL:=cN (P:=P) (w:=w) hlo hl (y:=hh) (Nat.le_refl _) .sliceB
         rcases hL with⟨rfl,rfl,rfl⟩|⟨u,rfl,_,lrun,lle⟩
         ·exact⟨Nat.le_refl _,Nat.zero_le _,Nat.le_refl _,by simp [Instr.sliceBounds]⟩
         ·exact⟨Nat.le_refl _,lle,Nat.le_refl _,by simp [Instr.sliceBounds,lrun]⟩
        ·have hL:=cN (P:=P) (w:=w) hlo hl (y:=hh) (Nat.le_refl _) .sliceB
         rcases hL with⟨rfl,rfl,rfl⟩|⟨u,rfl,_,lrun,lle⟩
         ·exact⟨hle,Nat.zero_le _,Nat.le_refl _,by simp [Instr.sliceBounds,hrun]⟩
         ·exact⟨hle,lle,Nat.le_refl _,by simp [Instr.sliceBounds,hrun,lrun]⟩
       ·have hH:=cN (P:=P) (w:=w) hhi hhh (y:=m) (Nat.le_refl _) .slice3B
        rcases hH with⟨rfl,rfl,rfl⟩|⟨v',rfl,hsome,hrun,hle⟩
        ·rw[msome] at hmh;simp at hmh
        ·have hL:=cN (P:=P) (w:=w) hlo hl (y:=hh) (Nat.le_refl _) .slice3C
         rcases hL with⟨rfl,rfl,rfl⟩|⟨u,rfl,_,lrun,lle⟩
         ·exact⟨hle,Nat.zero_le _,mle,by simp [Instr.sliceBounds,mrun,hrun]⟩
         ·exact⟨hle,lle,mle,by simp [Instr.sliceBounds,mrun,hrun,lrun]⟩
      obtain⟨k1,k2,k3,k7⟩:=key
      subst ho
      have hA: ∀(a:Addr) (k:Nat),a.spot=none->(a.add k).spot=none/\(a.add k).block=a.block/\(a.add k).off=a.off+k:=fun a k ha=>by
       unfold Addr.add;split<;>simp_all
      refine⟨.slice (some (if m=l then a' else a'.add (l*e.size))) (hh-l) (m-l),?_,?_⟩
      ·simp [Instr.sliceAt,aR t ht,Instr.sureAddr,k7,cG elem he]
      ·have hflag:(bif Nat.beq hh m then hh-l+1 else hh-l)=hh-l\/(bif Nat.beq hh m then hh-l+1 else hh-l)=m-l+1:=by
        cases hf:Nat.beq hh m
        ·left;rfl
        ·right
         have:hh=m:=Nat.eq_of_beq_eq_true hf
         show hh-l+1=m-l+1
         omega
       by_cases hml:m=l
       ·rw[if_pos hml]
        exact .slice ⟨(hA a _ s1).1,s2,by omega,hflag,en,by rw[(hA a _ s1).2.1];exact hen,.inl (by omega)⟩
       ·rw[if_neg hml]
        refine .slice ⟨(hA a _ s1).1,(hA a' _ s2).1,by omega,hflag,en,by rw[(hA a _ s1).2.1];exact hen,.inr ⟨by rw[(hA a' _ s2).2.1];exact t1,by rw[(hA a' _ s2).2.2,(hA a _ s1).2.2];omega,?_⟩⟩
        rw[(hA a _ s1).2.2,hesz,hq.1]
        have h1:l*e.size+(m-l)*e.size=m*e.size:=by rw[<-Nat.add_mul];congr 1;omega
        have h2:m*e.size<=n*e.size:=Nat.mul_le_mul_right _ k3
        omega
    ·simp at ho
   ·simp at ho
  ·simp at ho
 ·simp at ho
end Go.Am
