/-
  Package hier: each of its laws for every argument; no conditions. The last text states which.
-/
import Derived.Test.YtdaglldahidmbaaGAmPw
set_option linter.unusedVariables false
set_option linter.unusedSimpArgs false
noncomputable section
namespace Go.Am
open Go
def offS(c:Nat→Nat):Nat→Nat
 |0=>0
 |v+1=>offS c v+c v
theorem offS_mono(c:Nat→Nat): ∀{u v:Nat},u≤v→offS c u≤offS c v
 |u,0,h=>by have:u=0:=by omega
            subst this;exact Nat.le_refl _
 |u,v+1,h=>by
  by_cases e:u=v+1
  ·subst e;exact Nat.le_refl _
  ·have:=offS_mono c (show u≤v by omega)
   show offS c u≤offS c v+c v
   omega
theorem offS_next(c:Nat→Nat){u v:Nat}(h:u<v):offS c u+c u≤offS c v:=offS_mono c (show u+1≤v from h)
theorem offS_congr{c d:Nat→Nat}: ∀{n:Nat},(∀v,v<n→c v=d v)→offS c n=offS d n
 |0,_=>rfl
 |n+1,h=>by show offS c n+c n=offS d n+d n;rw[offS_congr (n:=n) fun v hv=>h v (by omega),h n (by omega)]
def bk{α:Type}(key:Nat→Nat)(item:Nat→α)(i v:Nat):List α:=(List.range i).filterMap fun j=>if key j=v then some (item j) else none
theorem bk_succ{α:Type}(key:Nat→Nat)(item:Nat→α)(i v:Nat):bk key item (i+1) v=bk key item i v++(if key i=v then[item i] else[]):=by
 unfold bk
 rw[List.range_succ,List.filterMap_append]
 by_cases h:key i=v<;>simp [h]
theorem bk_map{α β:Type}(key:Nat→Nat)(item:Nat→α)(f:α→β)(i v:Nat):(bk key item i v).map f=bk key (fun j=>f (item j)) i v:=by
 induction i with
 |zero=>rfl
 |succ i ih=>rw[bk_succ,bk_succ,List.map_append,ih];by_cases h:key i=v<;>simp [h]
def cnt(key:Nat→Nat)(i v:Nat):Nat:=(bk key (fun _=>()) i v).length
theorem bk_len{α:Type}(key:Nat→Nat)(item:Nat→α)(i v:Nat):(bk key item i v).length=cnt key i v:=by
 unfold cnt
 rw[←bk_map key item (fun _=>())]
 simp
theorem cnt_succ(key:Nat→Nat)(i v:Nat):cnt key (i+1) v=cnt key i v+(if key i=v then 1 else 0):=by
 unfold cnt
 rw[bk_succ,List.length_append]
 by_cases h:key i=v<;>simp [h]
theorem cnt_mono(key:Nat→Nat)(v:Nat): ∀{i j:Nat},i≤j→cnt key i v≤cnt key j v
 |i,0,h=>by have:i=0:=by omega
            subst this;exact Nat.le_refl _
 |i,j+1,h=>by
  by_cases e:i=j+1
  ·subst e;exact Nat.le_refl _
  ·have:=cnt_mono key v (show i≤j by omega)
   rw[cnt_succ];omega
theorem cnt_lt(key:Nat→Nat){i j:Nat}(h:i<j):cnt key i (key i)<cnt key j (key i):=by
 have h1:=cnt_mono key (key i) (show i+1≤j from h)
 rw[cnt_succ,if_pos rfl] at h1
 omega
theorem offS_cnt(key:Nat→Nat)(n:Nat): ∀(i:Nat),(∀j,j<i→key j<n)→offS (cnt key i) n=i
 |0,_=>by
  have: ∀n,offS (cnt key 0) n=0:=fun n=>by
   induction n with
   |zero=>rfl
   |succ n ih=>show offS (cnt key 0) n+cnt key 0 n=0;rw[ih];rfl
  exact this n
 |i+1,h=>by
  have ih:=offS_cnt key n i fun j hj=>h j (by omega)
  have hk:=h i (by omega)
  have: ∀m,offS (cnt key (i+1)) m=offS (cnt key i) m+(if key i<m then 1 else 0):=fun m=>by
   induction m with
   |zero=>rfl
   |succ m ihm=>
    show offS (cnt key (i+1)) m+cnt key (i+1) m=offS (cnt key i) m+cnt key i m+_
    rw[ihm,cnt_succ]
    by_cases h1:key i<m
    ·rw[if_pos h1,if_neg (by omega),if_pos (by omega)];omega
    ·by_cases h2:key i=m
     ·rw[if_neg h1,if_pos h2,if_pos (by omega)];omega
     ·rw[if_neg h1,if_neg h2,if_neg (by omega)];omega
  rw[this,ih,if_pos hk]
structure Bk(c:Nat→Nat)(n:Nat)(key:Nat→Nat)(item:Nat→Value)(i:Nat)(mem:List Value):Prop where
 len:mem.length=offS c n
 le: ∀v,v<n→cnt key i v≤c v
 at_: ∀v k,v<n→k<cnt key i v→mem[offS c v+k]?=(bk key item i v)[k]?
theorem Bk.zero{c:Nat→Nat}{n:Nat}{key:Nat→Nat}{item:Nat→Value}{mem:List Value}(h:mem.length=offS c n):Bk c n key item 0 mem:=
 ⟨h,fun v _=>Nat.zero_le _,fun v k _ hk=>absurd hk (Nat.not_lt_zero _)⟩
theorem Bk.room{c:Nat→Nat}{n:Nat}{key:Nat→Nat}{item:Nat→Value}{i:Nat}{mem:List Value}(h:Bk c n key item i mem){v:Nat}(hv:v<n)(hc:cnt key i v<c v):offS c v+cnt key i v<mem.length:=by
 have:=offS_next c hv
 rw[h.len];omega
theorem Bk.step{c:Nat→Nat}{n:Nat}{key:Nat→Nat}{item:Nat→Value}{i:Nat}{mem:List Value}(h:Bk c n key item i mem)(hv:key i<n)(hc:cnt key i (key i)<c (key i)):
  Bk c n key item (i+1) (splice mem (offS c (key i)+cnt key i (key i)) [item i]):=by
 have hlt:=h.room hv hc
 rw[splice_one _ _ _ hlt]
 refine⟨by rw[List.length_set];exact h.len,fun v hvn=> ?_,fun v k hvn hk=> ?_⟩
 ·rw[cnt_succ]
  by_cases e:key i=v
  ·subst e;rw[if_pos rfl];omega
  ·rw[if_neg e];exact h.le v hvn
 ·rw[bk_succ]
  rw[cnt_succ] at hk
  by_cases e:key i=v
  ·subst e
   rw[if_pos rfl] at hk⊢
   by_cases hk2:k<cnt key i (key i)
   ·rw[List.getElem?_set_ne (by omega),h.at_ _ _ hvn hk2,List.getElem?_append_left (by rw[bk_len];exact hk2)]
   ·have:k=cnt key i (key i):=by omega
    subst this
    rw[List.getElem?_set_self hlt,List.getElem?_append_right (by rw[bk_len];exact Nat.le_refl _),bk_len,Nat.sub_self]
    rfl
  ·rw[if_neg e] at hk⊢
   rw[List.append_nil]
   have hle:=h.le v hvn
   have hne:offS c (key i)+cnt key i (key i)≠offS c v+k:=by
    rcases Nat.lt_or_gt_of_ne e with h1|h1
    ·have:=offS_next c h1;omega
    ·have:=offS_next c h1;omega
   rw[List.getElem?_set_ne hne]
   exact h.at_ v k hvn (by omega)
theorem Bk.row{c:Nat→Nat}{n:Nat}{key:Nat→Nat}{item:Nat→Value}{i:Nat}{mem:List Value}(h:Bk c n key item i mem){v:Nat}(hv:v<n):(mem.drop (offS c v)).take (cnt key i v)=bk key item i v:=by
 apply List.ext_getElem?
 intro k
 by_cases hk:k<cnt key i v
 ·rw[List.getElem?_take_of_lt hk,List.getElem?_drop,h.at_ v k hv hk]
 ·rw[List.getElem?_eq_none (by simp;omega),List.getElem?_eq_none (by rw[bk_len];omega)]
theorem Bk.whole{c:Nat→Nat}{n:Nat}{key:Nat→Nat}{item:Nat→Value}{i:Nat}{mem:List Value}(h:Bk c n key item i mem)(hf: ∀v,v<n→cnt key i v=c v):mem=((List.range n).map (bk key item i)).flatten:=by
 have: ∀m,m≤n→mem.take (offS c m)=((List.range m).map (bk key item i)).flatten:=fun m=>by
  induction m with
  |zero=>intro _;rfl
  |succ m ih=>
   intro hm
   have h1:=h.row (v:=m) (by omega)
   rw[hf m (by omega)] at h1
   show mem.take (offS c m+c m)=_
   rw[List.take_add,ih (by omega),h1,List.range_succ]
   simp
 rw[←this n (Nat.le_refl _),←h.len,List.take_length]
def cellR(m:Nat)(c ln:Nat→Nat)(v:Nat):Value:=sli m (offS c v) (ln v) (c v+1)
def rowCells(m:Nat)(c ln:Nat→Nat)(n:Nat):List Value:=(List.range n).map (cellR m c ln)
theorem rowCells_len(m:Nat)(c ln:Nat→Nat)(n:Nat):(rowCells m c ln n).length=n:=by simp [rowCells]
theorem rowCells_get(m:Nat)(c ln:Nat→Nat){n v:Nat}(h:v<n):(rowCells m c ln n)[v]?=some (cellR m c ln v):=by simp [rowCells,h]
theorem rowCells_step(m:Nat)(c:Nat→Nat)(key:Nat→Nat)(i n:Nat)(h:key i<n):splice (rowCells m c (cnt key i) n) (key i) [sli m (offS c (key i)) (cnt key i (key i)+1) (c (key i)+1)]=rowCells m c (cnt key (i+1)) n:=by
 rw[splice_one _ _ _ (by rw[rowCells_len];exact h)]
 apply List.ext_getElem?
 intro v
 by_cases e:key i=v
 ·subst e
  rw[List.getElem?_set_self (by rw[rowCells_len];exact h),rowCells_get _ _ _ h]
  unfold cellR
  rw[cnt_succ,if_pos rfl]
 ·rw[List.getElem?_set_ne e]
  by_cases hv:v<n
  ·rw[rowCells_get _ _ _ hv,rowCells_get _ _ _ hv]
   unfold cellR
   rw[cnt_succ,if_neg e];rfl
  ·rw[List.getElem?_eq_none (by rw[rowCells_len];omega),List.getElem?_eq_none (by rw[rowCells_len];omega)]
def pRowss(rs:List (List Int))(v:Value)(M:Mem):Prop:= ∃E c blk,v=sli E 0 rs.length c∧M.get E=some blk∧blk.esz=1∧blk.cs.length=rs.length∧ ∀(u:Nat) (r:List Int),rs[u]?=some r→ ∃x,blk.cs[u]?=some x∧pInts r x M
instance:AP pRowss:=⟨fun{x y _ _} ⟨E,c,blk,h1,h2,_,_,h5⟩ ⟨E',c',blk',k1,k2,_,_,k5⟩=>by
 rw[h1] at k1
 simp only [Value.slice.injEq,Option.some.injEq,Addr.mk.injEq,and_true] at k1
 obtain⟨rfl,hl,_⟩:=k1
 rw[h2] at k2;cases k2
 apply List.ext_getElem?
 intro u
 by_cases hu:u<x.length
 ·obtain⟨a,a1,a2⟩:=h5 u x[u] (List.getElem?_eq_getElem hu)
  obtain⟨b,b1,b2⟩:=k5 u y[u] (List.getElem?_eq_getElem (by omega))
  rw[a1] at b1;cases b1
  rw[List.getElem?_eq_getElem hu,List.getElem?_eq_getElem (by omega),AP.uniq (R:=pInts) a2 b2]
 ·rw[List.getElem?_eq_none (by omega),List.getElem?_eq_none (by omega)],
 fun hE ⟨E,c,blk,h1,h2,h3,h4,h5⟩=>⟨E,c,blk,h1,hE _ _ h2,h3,h4,fun u r hr=>let ⟨x,a,b⟩:=h5 u r hr;⟨x,a,AP.ext (R:=pInts) hE b⟩⟩⟩
theorem rowss_of{M:Mem}{E m n k:Nat}{c:Nat→Nat}{key:Nat→Nat}{item:Nat→Int}{mem:List Value}{tE tm wE wm:Nat}{qE qm:Bool}(hE:M.get E=some ⟨rowCells m c (cnt key k) n,tE,1,wE,qE⟩)(hm:M.get m=some ⟨mem,tm,1,wm,qm⟩)(h:Bk c n key (fun j=>i64 (item j)) k mem)(hk:k≤9223372036854775807)(cp:Nat):
  pRowss ((List.range n).map (bk key item k)) (sli E 0 n cp) M:=by
 refine⟨E,cp,_,by simp,hE,rfl,by rw[rowCells_len];simp,fun u r hr=> ?_⟩
 have hu:u<n:=by
  have:=(List.getElem?_eq_some_iff.1 hr).1
  simpa using this
 simp [hu] at hr
 subst hr
 refine⟨_,rowCells_get _ _ _ hu,?_⟩
 unfold cellR
 have hb:(bk key item k u).map i64=bk key (fun j=>i64 (item j)) k u:=bk_map _ _ _ _ _
 have h1:=h.row hu
 have hlen:(bk key item k u).length=cnt key k u:=bk_len _ _ _ _
 have hle:=h.le u hu
 have hnx:=offS_next c hu
 rw[←hlen]
 refine GRowsAt.of_blk (blk:=⟨mem,tm,1,wm,qm⟩) (pre:=mem.take (offS c u)) (post:=mem.drop (offS c u+cnt key k u)) hm ?_ ?_ (fun _ _=>rfl) rfl ?_
 ·show mem=_
  rw[flat1,hb,←h1,List.append_assoc,←List.drop_drop,List.take_append_drop,List.take_append_drop]
 ·rw[List.length_take,h.len]
  omega
 ·rw[hlen]
  have: ∀i,cnt key i u≤i:=fun i=>by
   induction i with
   |zero=>exact Nat.le_refl _
   |succ i ih=>rw[cnt_succ];split<;>omega
  exact Nat.le_trans (this k) hk
def keyE(ends:List Int)(j:Nat):Nat:=((ends[j]?).getD 0).toNat
theorem keyE_at{ends:List Int}{j:Nat}(h:j<ends.length):keyE ends j=(ends[j]).toNat:=by unfold keyE;rw[List.getElem?_eq_getElem h];rfl
theorem keyE_lt{ends:List Int}{n:Nat}(hb: ∀x∈ends,0≤x∧x<(n:Int)){j:Nat}(h:j<ends.length):keyE ends j<n:=by
 rw[keyE_at h]
 have:=hb _ (List.getElem_mem h)
 omega
def cntCells(key:Nat→Nat)(i n:Nat):List Value:=(List.range n).map fun v=>i64 ((cnt key i v:Nat):Int)
theorem cntCells_len(key:Nat→Nat)(i n:Nat):(cntCells key i n).length=n:=by simp [cntCells]
theorem cntCells_get(key:Nat→Nat)(i:Nat){n v:Nat}(h:v<n):(cntCells key i n)[v]?=some (i64 ((cnt key i v:Nat):Int)):=by simp [cntCells,h]
theorem cntCells_zero(key:Nat→Nat)(n:Nat):cntCells key 0 n=List.replicate n (i64 0):=by
 apply List.ext_getElem?
 intro v
 by_cases hv:v<n
 ·rw[cntCells_get _ _ hv,List.getElem?_replicate,if_pos hv];rfl
 ·rw[List.getElem?_eq_none (by rw[cntCells_len];omega),List.getElem?_eq_none (by simp;omega)]
theorem cntCells_step(key:Nat→Nat){i n:Nat}(h:key i<n):splice (cntCells key i n) (key i) [i64 ((cnt key i (key i)+1:Nat):Int)]=cntCells key (i+1) n:=by
 rw[splice_one _ _ _ (by rw[cntCells_len];exact h)]
 apply List.ext_getElem?
 intro v
 by_cases e:key i=v
 ·subst e
  rw[List.getElem?_set_self (by rw[cntCells_len];exact h),cntCells_get _ _ h,cnt_succ,if_pos rfl]
 ·rw[List.getElem?_set_ne e]
  by_cases hv:v<n
  ·rw[cntCells_get _ _ hv,cntCells_get _ _ hv,cnt_succ,if_neg e];rfl
  ·rw[List.getElem?_eq_none (by rw[cntCells_len];omega),List.getElem?_eq_none (by rw[cntCells_len];omega)]
theorem cnt_le(key:Nat→Nat)(i v:Nat):cnt key i v≤i:=by
 induction i with
 |zero=>exact Nat.le_refl _
 |succ i ih=>rw[cnt_succ];split<;>omega
theorem wrap_nat{i:Nat}(h:i<1099511627776):IntKind.wrap .i64 ((i:Nat):Int)=((i:Nat):Int):=Go.Am.wrap_small (by omega) (by omega)
theorem wrap_add{i j:Nat}(h:i+j<1099511627776):IntKind.wrap .i64 (((i:Nat):Int)+((j:Nat):Int))=((i+j:Nat):Int):=by
 rw[←wrap_nat h];congr 1
def rowsOf(n:Nat)(ends:List Int):List (List Int):=(List.range n).map (bk (keyE ends) (fun j=>((j:Nat):Int)) ends.length)
theorem rowsOf_len(n:Nat)(ends:List Int):(rowsOf n ends).length=n:=by simp [rowsOf]
def pRoom(x:Nat×List Int)(nx:Nat)(v:Value)(M:Mem):Prop:= ∃E D,v=sli E 0 x.1 (x.1+1)∧nx≤E∧nx≤D∧D≠E∧M.get E=some ⟨rowCells D (cnt (keyE x.2) x.2.length) (fun _=>0) x.1,22,1,0,true⟩∧M.get D=some ⟨List.replicate x.2.length (i64 0),3,1,0,true⟩
instance:AQ pRoom:=⟨fun hE ⟨E,D,h1,h2,h3,h4,h5,h6⟩=>⟨E,D,h1,h2,h3,h4,hE _ _ h5,hE _ _ h6⟩⟩
structure AdjM where
 out:List (List Int)
 inn:List (List Int)
 to:List Int
 set:List Int
def adjM(n:Nat)(l:List E4):AdjM:=⟨rowsOf n (l.map (tellE .fr)),rowsOf n (l.map (tellE .to)),l.map (tellE .to),l.map (tellE .set)⟩
def pAdj(ty:TypeId)(a:AdjM)(v:Value)(M:Mem):Prop:= ∃b o i t s,v=pt b 0∧M.get b=some ⟨[o,i,t,s],ty,4,0,true⟩∧pRowss a.out o M∧pRowss a.inn i M∧pInts a.to t M∧pInts a.set s M
instance(ty:TypeId):AP (pAdj ty):=⟨fun{x y _ _} ⟨b,o,i,t,s,h1,h2,h3,h4,h5,h6⟩ ⟨b',o',i',t',s',k1,k2,k3,k4,k5,k6⟩=>by
 rw[h1] at k1
 simp only [Value.pointer.injEq,Option.some.injEq,Addr.mk.injEq,and_true] at k1
 subst k1
 rw[h2] at k2
 simp only [Option.some.injEq,ABlk.mk.injEq,List.cons.injEq,and_true,true_and] at k2
 obtain⟨rfl,rfl,rfl,rfl⟩:=k2
 have e1:=AP.uniq (R:=pRowss) h3 k3;have e2:=AP.uniq (R:=pRowss) h4 k4;have e3:=AP.uniq (R:=pInts) h5 k5;have e4:=AP.uniq (R:=pInts) h6 k6
 cases x;cases y;simp_all,
 fun hE ⟨b,o,i,t,s,h1,h2,h3,h4,h5,h6⟩=>⟨b,o,i,t,s,h1,hE _ _ h2,AP.ext (R:=pRowss) hE h3,AP.ext (R:=pRowss) hE h4,AP.ext (R:=pInts) hE h5,AP.ext (R:=pInts) hE h6⟩⟩
theorem belB_spec{x n:Int}:belB x n=true↔0≤x∧x<n:=by simp [belB]
theorem chkN_spec{n:Int}{l:List E4}(h:chkN n l=true):1≤n∧n≤60∧l.length≤400∧ ∀e∈l,0≤e.f∧e.f<n∧0≤e.t∧e.t<n∧okM e:=by
 simp only [chkN,fitN,Bool.and_eq_true,Bool.not_eq_true',Bool.or_eq_false_iff,Bool.not_eq_false',decide_eq_true_eq,decide_eq_false_iff_not,List.all_eq_true] at h
 obtain⟨⟨⟨h1,h2⟩,h3⟩,h4⟩:=h
 refine⟨h1,h2,by omega,fun e he=> ?_⟩
 have:=h4 e he
 simp only [fitE,Bool.and_eq_true,belB_spec,decide_eq_true_eq] at this
 obtain⟨⟨⟨⟨h5,h6⟩,h7⟩,h8⟩,h9⟩:=this
 exact⟨h5.1,h5.2,h6.1,h6.2,h7⟩
theorem tell_range{n:Int}{l:List E4}(h:chkN n l=true){k:Tell}(hk:k≠ .set): ∀x∈l.map (tellE k),0≤x∧x<n:=fun x hx=>by
 obtain⟨e,he,rfl⟩:=List.mem_map.1 hx
 obtain⟨_,_,_,hh⟩:=chkN_spec h
 have:=hh e he
 cases k
 ·exact⟨this.2.2.1,this.2.2.2.1⟩
 ·exact⟨this.1,this.2.1⟩
 ·exact absurd rfl hk
def rowV(rs:List (List Int))(v:Int):List Int:=if 0≤v then(rs[v.toNat]?).getD [] else[]
theorem ld_rowss{P:Program}{rs:List (List Int)}{E n c u:Nat}{r:List Int}{M:Mem}{ty:TypeId}(h:pRowss rs (sli E 0 n c) M)(hu:rs[u]?=some r)(hd:(P.underlying ty).map isAggD=some false): ∃a c',aload P ty ⟨E,0+u*1,none⟩ M=some (.slice a r.length c')∧pInts r (.slice a r.length c') M:=by
 obtain⟨E',c0,blk,h1,h2,_,_,h5⟩:=h
 simp only [Value.slice.injEq,Option.some.injEq,Addr.mk.injEq,and_true] at h1
 obtain⟨rfl,_,_⟩:=h1
 obtain⟨x,hx,hp⟩:=h5 u r hu
 obtain⟨a,c',rfl⟩:=GRowsAt.form hp
 exact⟨a,c',aload_cell (a:=⟨E,0+u*1,none⟩) hd h2 (by simpa using hx),hp⟩
theorem rowss_form{rs:List (List Int)}{v:Value}{M:Mem}(h:pRowss rs v M): ∃E c,v=sli E 0 rs.length c:=by
 obtain⟨E,c,blk,h1,_⟩:=h
 exact⟨E,c,h1⟩
def okA(a:AdjM):Prop:=(∀r∈a.out,r.length≤400∧ ∀j∈r,0≤j∧j<(a.set.length:Int))∧(∀r∈a.inn,r.length≤400∧ ∀j∈r,0≤j∧j<(a.set.length:Int))∧a.set.length≤400∧ ∀z∈a.set,0≤z∧z<32
theorem bk_mem{α:Type}{key:Nat→Nat}{item:Nat→α}{i v:Nat}{x:α}:x∈bk key item i v↔ ∃j,j<i∧key j=v∧item j=x:=by
 unfold bk
 simp only [List.mem_filterMap,List.mem_range]
 constructor
 ·rintro⟨j,h1,h2⟩
  by_cases h:key j=v
  ·rw[if_pos h] at h2;exact⟨j,h1,h,Option.some.inj h2⟩
  ·rw[if_neg h] at h2;cases h2
 ·rintro⟨j,h1,h2,rfl⟩
  exact⟨j,h1,by rw[if_pos h2]⟩
theorem rowsOf_ok{n:Nat}{ends:List Int}(h:ends.length≤400): ∀r∈rowsOf n ends,r.length≤400∧ ∀j∈r,0≤j∧j<(ends.length:Int):=fun r hr=>by
 obtain⟨v,_,rfl⟩:=List.mem_map.1 hr
 refine⟨by rw[bk_len];exact Nat.le_trans (cnt_le _ _ _) h,fun j hj=> ?_⟩
 obtain⟨k,h1,_,rfl⟩:=bk_mem.1 hj
 omega
theorem setM_range{m:Int}(h0:0≤m)(h5:m<5):0≤setM m∧setM m<32:=by
 have:m=0∨m=1∨m=2∨m=3∨m=4:=by omega
 rcases this with rfl|rfl|rfl|rfl|rfl<;>decide
theorem okA_adjM{n:Nat}{l:List E4}(h:chkN ((n:Nat):Int) l=true):okA (adjM n l):=by
 obtain⟨_,_,h3,h4⟩:=chkN_spec h
 have e1:((l.map (tellE .set)).length:Int)=((l.map (tellE .fr)).length:Int):=by simp
 have e2:((l.map (tellE .set)).length:Int)=((l.map (tellE .to)).length:Int):=by simp
 refine⟨?_,?_,by simpa [adjM] using h3,fun z hz=> ?_⟩
 ·show∀r∈rowsOf n _,r.length≤400∧ ∀j∈r,0≤j∧j<((l.map (tellE .set)).length:Int)
  rw[e1];exact rowsOf_ok (by simpa using h3)
 ·show∀r∈rowsOf n _,r.length≤400∧ ∀j∈r,0≤j∧j<((l.map (tellE .set)).length:Int)
  rw[e2];exact rowsOf_ok (by simpa using h3)
 ·obtain⟨e,he,rfl⟩:=List.mem_map.1 hz
  exact setM_range (h4 e he).2.2.2.2.1 (h4 e he).2.2.2.2.2
theorem rowV_ok{rs:List (List Int)}{p:List Int→Prop}(h: ∀r∈rs,p r)(h0:p [])(v:Int):p (rowV rs v):=by
 unfold rowV
 split
 ·cases hh:rs[v.toNat]? with
  |none=>exact h0
  |some r=>exact h r (List.mem_of_getElem? hh)
 ·exact h0
def unionI(set es:List Int):Int:=es.foldl (fun s i=>orI s ((set[i.toNat]?).getD 0)) 0
def modesI(a:AdjM)(v:Int):Int:=orI (unionI a.set (rowV a.out v)) (unionI a.set (rowV a.inn v))
def pSight(ty:TypeId)(x:Nat×AdjM)(v:Value)(M:Mem):Prop:= ∃p,v= .agg ⟨[i64 ((x.1:Nat):Int),p]⟩∧pAdj ty x.2 p M
instance(ty:TypeId):AP (pSight ty):=⟨fun{x y _ _} ⟨p,h1,h2⟩ ⟨q,k1,k2⟩=>by
 rw[h1] at k1
 simp only [Value.agg.injEq,Array.mk.injEq,List.cons.injEq,and_true] at k1
 obtain⟨e1,rfl⟩:=k1
 have e2:=AP.uniq (R:=pAdj ty) h2 k2
 obtain⟨a,b⟩:=x;obtain⟨c,d⟩:=y
 have h3:a=c:=by have:((a:Nat):Int)=((c:Nat):Int):=by simpa [i64] using e1
                 omega
 have h4:b=d:=e2
 rw[h3,h4],fun hE ⟨p,h1,h2⟩=>⟨p,h1,AP.ext (R:=pAdj ty) hE h2⟩⟩
def pU(k:Nat)(v:Value)(_:Mem):Prop:=v= .int .u64 ((k:Nat):Int)
instance:AP pU:=⟨fun h k=>by unfold pU at h k;rw[h] at k;simp at k;omega,fun _ h=>h⟩
def popN(n:Nat):Nat:=n%2+n/2%2+n/4%2+n/8%2+n/16%2
theorem orI_lt{x y:Int}(hx:0≤x∧x<32)(hy:0≤y∧y<32):orI x y=((x.toNat|||y.toNat:Nat):Int)∧0≤orI x y∧orI x y<32:=by
 have h:=orI_nat (x:=x.toNat) (y:=y.toNat) (by omega) (by omega)
 rw[Int.toNat_of_nonneg hx.1,Int.toNat_of_nonneg hy.1] at h
 have h2:x.toNat|||y.toNat<2^5:=Nat.or_lt_two_pow (by omega) (by omega)
 exact⟨h,by omega,by omega⟩
theorem unionI_range{set:List Int}(hs: ∀z∈set,0≤z∧z<32)(es:List Int):0≤unionI set es∧unionI set es<32:=by
 unfold unionI
 have: ∀(es:List Int) (s:Int),0≤s∧s<32→0≤es.foldl (fun s i=>orI s ((set[i.toNat]?).getD 0)) s∧es.foldl (fun s i=>orI s ((set[i.toNat]?).getD 0)) s<32:=fun es=>by
  induction es with
  |nil=>intro s h;exact h
  |cons e es ih=>
   intro s h
   have h2:0≤((set[e.toNat]?).getD 0)∧((set[e.toNat]?).getD 0)<32:=by
    cases hh:set[e.toNat]? with
    |none=>simp
    |some z=>exact hs z (List.mem_of_getElem? hh)
   exact ih _ (orI_lt h h2).2
 exact this es 0 (by omega)
theorem modesI_range{a:AdjM}(h:okA a)(v:Int):0≤modesI a v∧modesI a v<32:=(orI_lt (unionI_range h.2.2.2 _) (unionI_range h.2.2.2 _)).2
theorem wrapU{x:Int}(h:0≤x∧x<32):IntKind.wrap .u64 x=((x.toNat:Nat):Int):=by
 rw[Int.toNat_of_nonneg h.1]
 show x%(2^64)=x
 exact Int.emod_eq_of_lt h.1 (by omega)
def linkB(a:AdjM)(v:Int):Bool:=decide (((popN (modesI a v).toNat:Nat):Int)≥2)
def endsN(a:AdjM)(v:Int):Nat:=(rowV a.out v).length+(rowV a.inn v).length
theorem endsN_le{a:AdjM}(h:okA a)(v:Int):endsN a v≤800:=by
 have h1:=rowV_ok (p:=fun r=>r.length≤400) (fun r hr=>(h.1 r hr).1) (by decide) v
 have h2:=rowV_ok (p:=fun r=>r.length≤400) (fun r hr=>(h.2.1 r hr).1) (by decide) v
 unfold endsN;omega
def pCount(f:FuncId)(ty:TypeId)(x:Nat×AdjM)(v:Value)(M:Mem):Prop:= ∃s,v= .func (.func f) ⟨[s]⟩ ⟨[]⟩∧pSight ty x s M
instance(f:FuncId)(ty:TypeId):AP (pCount f ty):=⟨fun{x y _ _} ⟨p,h1,h2⟩ ⟨q,k1,k2⟩=>by
 rw[h1] at k1
 simp only [Value.func.injEq,true_and,Array.mk.injEq,List.cons.injEq,and_true] at k1
 subst k1
 exact AP.uniq (R:=pSight ty) h2 k2,fun hE ⟨p,h1,h2⟩=>⟨p,h1,AP.ext (R:=pSight ty) hE h2⟩⟩
def AccI(M0 M:Mem)(S:Value)(l:List Int):Prop:=(S=sln∧l= [])∨ ∃b,S=sli b 0 l.length l.length∧l≠ []∧M0.next≤b∧M.get b=some ⟨l.map i64,3,1,0,true⟩
theorem AccI.keep{M0 M M':Mem}{S:Value}{l:List Int}(h:AccI M0 M S l)(hk: ∀id b,M0.next≤id→M.get id=some b→M'.get id=some b):AccI M0 M' S l:=by
 rcases h with h|⟨b,h1,h2,h3,h4⟩
 ·exact .inl h
 ·exact .inr ⟨b,h1,h2,h3,hk _ _ h3 h4⟩
theorem AccI.new{M0 M:Mem}{S:Value}{l:List Int}{n:Nat}(h:AccI M0 M S l)(hl:l.length≤9223372036854775807)(hn:n≤M0.next):pInts l S (hid n M):=by
 rcases h with⟨rfl,rfl⟩|⟨b,rfl,_,h3,h4⟩
 ·exact GRowsAt.nil none
 ·exact GRowsAt.of_blk' (hid_of (by omega) h4) rfl (flat1 l).symm (fun _ _=>rfl) hl
def othersTo(a:AdjM)(i:Nat):List Int:=(List.range i).filterMap fun v=>if linkB a ((v:Nat):Int) then none else some ((v:Nat):Int)
theorem othersTo_succ(a:AdjM)(i:Nat):othersTo a (i+1)=othersTo a i++(if linkB a ((i:Nat):Int) then[] else[((i:Nat):Int)]):=by
 unfold othersTo
 rw[List.range_succ,List.filterMap_append]
 cases h:linkB a ((i:Nat):Int)<;>simp [h]
theorem othersTo_len(a:AdjM)(i:Nat):(othersTo a i).length≤i:=by
 have:=List.length_filterMap_le (fun v:Nat=>if linkB a ((v:Nat):Int) then none else some ((v:Nat):Int)) (List.range i)
 simpa [othersTo] using this
def pNats(sz:List Nat)(v:Value)(M:Mem):Prop:=pInts (sz.map fun k=>((k:Nat):Int)) v M
theorem map_nat_inj: ∀{a b:List Nat},a.map (fun k=>((k:Nat):Int))=b.map (fun k=>((k:Nat):Int))→a=b
 | [],[],_=>rfl
 | [],_::_,h=>by simp at h
 |_::_,[],h=>by simp at h
 |x::a,y::b,h=>by
  simp only [List.map_cons,List.cons.injEq] at h
  have:x=y:=by omega
  rw[this,map_nat_inj h.2]
instance:AP pNats:=⟨fun h k=>map_nat_inj (AP.uniq (R:=pInts) h k),fun hE h=>AP.ext (R:=pInts) hE h⟩
def pMem(x:Nat×Nat)(v:Value)(M:Mem):Prop:=v=sli x.1 0 x.2 (x.2+1)∧ ∃cd,M.get x.1=some ⟨cd,3,1,0,true⟩
instance:AP pMem:=⟨fun{x y _ _} ⟨h,_⟩ ⟨k,_⟩=>by
 rw[h] at k
 simp only [Value.slice.injEq,Option.some.injEq,Addr.mk.injEq,and_true] at k
 obtain⟨a,b⟩:=x;obtain⟨c,d⟩:=y
 have h1:a=c:=k.1
 have h2:b=d:=k.2.1
 rw[h1,h2],fun hE ⟨h,cd,k⟩=>⟨h,cd,hE _ _ k⟩⟩
def cOf(sz:List Nat)(d:Nat):Nat:=(sz[d]?).getD 0
def keyV(a:AdjM)(vs:List Int)(j:Nat):Nat:=endsN a ((vs[j]?).getD 0)
def tallyN(a:AdjM)(vs:List Int):List Nat:=(List.range 801).map (cnt (keyV a vs) vs.length)
theorem cOf_tally{a:AdjM}{vs:List Int}{d:Nat}(h:d<801):cOf (tallyN a vs) d=cnt (keyV a vs) vs.length d:=by
 unfold cOf tallyN
 rw[List.getElem?_map,List.getElem?_range h];rfl
def pShare(x:(Nat×Nat)×List Nat)(nx:Nat)(v:Value)(M:Mem):Prop:= ∃E,v=sli E 0 x.2.length (x.2.length+1)∧nx≤E∧M.get E=some ⟨rowCells x.1.1 (cOf x.2) (fun _=>0) x.2.length,22,1,0,true⟩
instance:AQ pShare:=⟨fun hE ⟨E,h1,h2,h3⟩=>⟨E,h1,h2,hE _ _ h3⟩⟩
def sortedI(a:AdjM)(vs:List Int):List Int:=((List.range 801).map (bk (keyV a vs) (fun j=>(vs[j]?).getD 0) vs.length)).flatten
theorem tallyN_len(a:AdjM)(vs:List Int):(tallyN a vs).length=801:=by simp [tallyN]
theorem tally_sum{a:AdjM}(h:okA a)(vs:List Int):offS (cOf (tallyN a vs)) 801=vs.length:=by
 rw[offS_congr (d:=cnt (keyV a vs) vs.length) fun v hv=>cOf_tally hv]
 exact offS_cnt (keyV a vs) 801 vs.length fun j _=>by have:=endsN_le h ((vs[j]?).getD 0);unfold keyV;omega
theorem flat_bk{α β:Type}(L:List Nat)(key:Nat→Nat)(item:Nat→α)(f:α→β)(k:Nat):(L.map (bk key (fun j=>f (item j)) k)).flatten=((L.map (bk key item k)).flatten).map f:=by
 induction L with
 |nil=>rfl
 |cons d L ih=>simp only [List.map_cons,List.flatten_cons,List.map_append,ih,bk_map]
theorem sorted_of{a:AdjM}{vs:List Int}{mem:List Value}(h:Bk (cOf (tallyN a vs)) 801 (keyV a vs) (fun j=>i64 ((vs[j]?).getD 0)) vs.length mem):mem=(sortedI a vs).map i64:=
 (h.whole fun v hv=>(cOf_tally hv).symm).trans (flat_bk _ _ _ _ _)
theorem len_bk{α:Type}(key:Nat→Nat)(item:Nat→α)(k m:Nat):((List.range m).map (bk key item k)).flatten.length=offS (cnt key k) m:=by
 induction m with
 |zero=>rfl
 |succ m ih=>
  rw[List.range_succ,List.map_append,List.flatten_append,List.length_append,ih]
  show _+(bk _ _ _ _++ []).length=offS _ m+cnt _ _ m
  rw[List.append_nil,bk_len]
theorem sortedI_len{a:AdjM}(ha:okA a)(vs:List Int):(sortedI a vs).length=vs.length:=
 (len_bk _ _ _ _).trans (offS_cnt (keyV a vs) 801 vs.length fun j _=>by have:=endsN_le ha ((vs[j]?).getD 0);unfold keyV;omega)
def orderL(n:Nat)(l:List E4):List Int:=sortedI (adjM n l) (othersTo (adjM n l) n)
end Go.Am
end

noncomputable section
namespace Go.Am
open Go
def pRefA(ty:TypeId)(x:Nat×List E4)(v:Value)(M:Mem):Prop:= ∃b L,v=pt b 0∧M.get b=some ⟨[i64 ((x.1:Nat):Int),L],ty,2,0,true⟩∧pEdges x.2 L M
instance(ty:TypeId):AP (pRefA ty):=⟨fun{x y _ _} ⟨b,L,h1,h2,h3⟩ ⟨c,K,k1,k2,k3⟩=>by
 rw[h1] at k1
 simp only [Value.pointer.injEq,Option.some.injEq,Addr.mk.injEq,and_true] at k1
 subst k1
 rw[h2] at k2
 simp only [Option.some.injEq,ABlk.mk.injEq,List.cons.injEq,and_true] at k2
 obtain⟨e1,rfl⟩:=k2
 have e2:=AP.uniq (R:=pEdges) h3 k3
 obtain⟨a,b⟩:=x;obtain⟨c,d⟩:=y
 have h4:a=c:=by have:((a:Nat):Int)=((c:Nat):Int):=by simpa [i64] using e1
                 omega
 have h5:b=d:=e2
 rw[h4,h5],fun hE ⟨b,L,h1,h2,h3⟩=>⟨b,L,h1,hE _ _ h2,AP.ext (R:=pEdges) hE h3⟩⟩
def refRow(k:Tell)(l:List E4)(v:Int)(i:Nat):List Int:=(List.range i).filterMap fun j=>match l[j]? with
 |some e=>if tellE k e=v then some ((j:Nat):Int) else none
 |none=>none
theorem refRow_succ(k:Tell){l:List E4}(v:Int){i:Nat}{e:E4}(h:l[i]?=some e):refRow k l v (i+1)=refRow k l v i++(if tellE k e=v then[((i:Nat):Int)] else[]):=by
 unfold refRow
 rw[List.range_succ,List.filterMap_append]
 by_cases hh:tellE k e=v<;>simp [h,hh]
theorem refRow_len(k:Tell)(l:List E4)(v:Int)(i:Nat):(refRow k l v i).length≤i:=by
 have:=List.length_filterMap_le (fun j:Nat=>match l[j]? with
  |some e=>if tellE k e=v then some ((j:Nat):Int) else none
  |none=>none) (List.range i)
 simpa [refRow] using this
theorem refRow_rowV{k:Tell}{n:Nat}{l:List E4}{v:Int}(hv:0≤v∧v<(n:Int))(hb: ∀x∈l.map (tellE k),0≤x∧x<(n:Int)):rowV (rowsOf n (l.map (tellE k))) v=refRow k l v l.length:=by
 unfold rowV
 rw[if_pos hv.1]
 have h1:(rowsOf n (l.map (tellE k)))[v.toNat]?=some (bk (keyE (l.map (tellE k))) (fun j=>((j:Nat):Int)) (l.map (tellE k)).length v.toNat):=by
  unfold rowsOf
  rw[List.getElem?_map,List.getElem?_range (by omega)];rfl
 rw[h1,Option.getD_some,List.length_map]
 have: ∀i,i≤l.length→bk (keyE (l.map (tellE k))) (fun j=>((j:Nat):Int)) i v.toNat=refRow k l v i:=fun i=>by
  induction i with
  |zero=>intro _;rfl
  |succ i ih=>
   intro hi
   have he:l[i]?=some l[i]:=List.getElem?_eq_getElem (by omega)
   rw[bk_succ,refRow_succ k v he,ih (by omega)]
   have hbi:=hb (tellE k l[i]) (List.mem_map.2 ⟨l[i],List.getElem_mem _,rfl⟩)
   have hk:keyE (l.map (tellE k)) i=(tellE k l[i]).toNat:=by rw[keyE_at (by simp;omega)];simp
   rw[hk]
   by_cases hh:tellE k l[i]=v
   ·rw[if_pos hh,if_pos (by rw[hh])]
   ·rw[if_neg hh,if_neg (by omega)]
 exact this _ (Nat.le_refl _)
def refModes(l:List E4)(v:Int)(i:Nat):Int:=(l.take i).foldl (fun s e=>if e.f=v∨e.t=v then orI s (setM e.m) else s) 0
theorem refModes_succ{l:List E4}(v:Int){i:Nat}{e:E4}(h:l[i]?=some e):refModes l v (i+1)=if e.f=v∨e.t=v then orI (refModes l v i) (setM e.m) else refModes l v i:=by
 obtain⟨hi,rfl⟩:=List.getElem?_eq_some_iff.1 h
 unfold refModes
 rw[List.take_succ_eq_append_getElem hi,List.foldl_append]
 rfl
def sumB(s:Int):Int:=IntKind.wrap .i64 (IntKind.wrap .i64 (IntKind.wrap .i64 (IntKind.wrap .i64 (IntKind.wrap .i64 ((0:Int)+andI (s.fdiv (2^(0:Int).toNat)) (1:Int))+andI (s.fdiv (2^(1:Int).toNat)) (1:Int))+andI (s.fdiv (2^(2:Int).toNat)) (1:Int))+andI (s.fdiv (2^(3:Int).toNat)) (1:Int))+andI (s.fdiv (2^(4:Int).toNat)) (1:Int))
def linkR(l:List E4)(v:Int):Bool:=decide (sumB (refModes l v l.length)≥(2:Int))
def refDeg(l:List E4)(v:Int):Nat:=(refRow .fr l v l.length).length+(refRow .to l v l.length).length
def refOrd(l:List E4)(d i:Nat):List Int:=(List.range i).filterMap fun v=>if linkR l ((v:Nat):Int)=false∧refDeg l ((v:Nat):Int)=d then some ((v:Nat):Int) else none
theorem refOrd_succ(l:List E4)(d i:Nat):refOrd l d (i+1)=refOrd l d i++(if linkR l ((i:Nat):Int)=false∧refDeg l ((i:Nat):Int)=d then[((i:Nat):Int)] else[]):=by
 unfold refOrd
 rw[List.range_succ,List.filterMap_append]
 by_cases h:linkR l ((i:Nat):Int)=false∧refDeg l ((i:Nat):Int)=d<;>simp [h]
def orderTo(l:List E4)(n d:Nat):List Int:=((List.range d).map fun k=>refOrd l k n).flatten
theorem orderTo_succ(l:List E4)(n d:Nat):orderTo l n (d+1)=orderTo l n d++refOrd l d n:=by simp [orderTo,List.range_succ]
def orderR(n:Nat)(l:List E4):List Int:=orderTo l n (2*l.length+1)
end Go.Am
end

noncomputable section
namespace Go.Am
open Go
theorem orI_bit{x y:Int}(hx:0≤x∧x<32)(hy:0≤y∧y<32)(k:Nat):(orI x y).toNat.testBit k=(x.toNat.testBit k||y.toNat.testBit k):=by
 rw[(orI_lt hx hy).1,Int.toNat_natCast,Nat.testBit_or]
theorem setM_bit(m:Int)(k:Nat):(setM m).toNat.testBit k=decide (m.toNat=k):=by
 unfold setM
 rw[Int.toNat_natCast,Nat.testBit_two_pow]
theorem union_bit{set:List Int}(hs: ∀z∈set,0≤z∧z<32)(es:List Int)(k:Nat):(unionI set es).toNat.testBit k=es.any fun j=>((set[j.toNat]?).getD 0).toNat.testBit k:=by
 unfold unionI
 have hz: ∀e:Int,0≤((set[e.toNat]?).getD 0)∧((set[e.toNat]?).getD 0)<32:=fun e=>by
  cases hh:set[e.toNat]? with
  |none=>simp
  |some z=>exact hs z (List.mem_of_getElem? hh)
 have: ∀(es:List Int) (s:Int),0≤s∧s<32→(es.foldl (fun s i=>orI s ((set[i.toNat]?).getD 0)) s).toNat.testBit k=(s.toNat.testBit k||es.any fun j=>((set[j.toNat]?).getD 0).toNat.testBit k):=fun es=>by
  induction es with
  |nil=>intro s _;simp
  |cons e es ih=>
   intro s h
   rw[List.foldl_cons,ih _ (orI_lt h (hz e)).2,orI_bit h (hz e),List.any_cons,Bool.or_assoc]
 rw[this es 0 (by omega)]
 simp
theorem refModes_range{l:List E4}(hok: ∀e∈l,okM e)(v:Int): ∀i,i≤l.length→0≤refModes l v i∧refModes l v i<32
 |0,_=>by unfold refModes;simp
 |i+1,h=>by
  have ih:=refModes_range hok v i (by omega)
  have he:l[i]?=some l[i]:=List.getElem?_eq_getElem (by omega)
  rw[refModes_succ v he]
  split
  ·exact(orI_lt ih (setM_range (hok _ (List.getElem_mem _)).1 (hok _ (List.getElem_mem _)).2)).2
  ·exact ih
theorem refModes_bit{l:List E4}(hok: ∀e∈l,okM e)(v:Int)(k:Nat): ∀i,i≤l.length→((refModes l v i).toNat.testBit k=true↔ ∃j e,j<i∧l[j]?=some e∧(e.f=v∨e.t=v)∧e.m.toNat=k)
 |0,_=>by unfold refModes;simp
 |i+1,h=>by
  have ih:=refModes_bit hok v k i (by omega)
  have he:l[i]?=some l[i]:=List.getElem?_eq_getElem (by omega)
  have hm:=hok _ (List.getElem_mem (show i<l.length by omega))
  have hx:(∃j e,j<i+1∧l[j]?=some e∧(e.f=v∨e.t=v)∧e.m.toNat=k)↔(∃j e,j<i∧l[j]?=some e∧(e.f=v∨e.t=v)∧e.m.toNat=k)∨((l[i].f=v∨l[i].t=v)∧l[i].m.toNat=k):=by
   constructor
   ·rintro⟨j,e,h1,h2,h3⟩
    by_cases hj:j=i
    ·subst hj;rw[he] at h2;cases h2;exact .inr h3
    ·exact .inl ⟨j,e,by omega,h2,h3⟩
   ·rintro(⟨j,e,h1,h2,h3⟩|h3)
    ·exact⟨j,e,by omega,h2,h3⟩
    ·exact⟨i,_,by omega,he,h3⟩
  rw[hx,←ih,refModes_succ v he]
  by_cases hv:l[i].f=v∨l[i].t=v
  ·rw[if_pos hv,orI_bit (refModes_range hok v i (by omega)) (setM_range hm.1 hm.2),setM_bit]
   simp [hv]
  ·rw[if_neg hv]
   simp [hv]
theorem refRow_mem{k:Tell}{l:List E4}{v:Int}{i:Nat}{x:Int}:x∈refRow k l v i↔ ∃j e,j<i∧l[j]?=some e∧tellE k e=v∧x=((j:Nat):Int):=by
 unfold refRow
 simp only [List.mem_filterMap,List.mem_range]
 constructor
 ·rintro⟨j,h1,h2⟩
  cases he:l[j]? with
  |none=>rw[he] at h2;cases h2
  |some e=>
   rw[he] at h2
   simp only at h2
   by_cases hh:tellE k e=v
   ·rw[if_pos hh] at h2;exact⟨j,e,h1,he,hh,(Option.some.inj h2).symm⟩
   ·rw[if_neg hh] at h2;cases h2
 ·rintro⟨j,e,h1,h2,h3,rfl⟩
  exact⟨j,h1,by rw[h2];simp [h3]⟩
theorem modes_eq{n:Nat}{l:List E4}(h:chkN ((n:Nat):Int) l=true){v:Int}(hv:0≤v∧v<(n:Int)):modesI (adjM n l) v=refModes l v l.length:=by
 obtain⟨_,_,h3,h4⟩:=chkN_spec h
 have hok: ∀e∈l,okM e:=fun e he=>(h4 e he).2.2.2.2
 have ha:=okA_adjM h
 have r1:=modesI_range ha v
 have r2:=refModes_range hok v l.length (Nat.le_refl _)
 have e1:rowV (adjM n l).out v=refRow .fr l v l.length:=refRow_rowV hv (tell_range h (by simp))
 have e2:rowV (adjM n l).inn v=refRow .to l v l.length:=refRow_rowV hv (tell_range h (by simp))
 have u1:=unionI_range ha.2.2.2 (rowV (adjM n l).out v)
 have u2:=unionI_range ha.2.2.2 (rowV (adjM n l).inn v)
 have key:(modesI (adjM n l) v).toNat=(refModes l v l.length).toNat:=by
  apply Nat.eq_of_testBit_eq
  intro k
  rw[Bool.eq_iff_iff,refModes_bit hok v k _ (Nat.le_refl _)]
  unfold modesI
  rw[orI_bit u1 u2,union_bit ha.2.2.2,union_bit ha.2.2.2,e1,e2]
  simp only [Bool.or_eq_true,List.any_eq_true]
  have hset: ∀(j:Nat) (e:E4),l[j]?=some e→(((adjM n l).set[(((j:Nat):Int)).toNat]?).getD 0).toNat.testBit k=decide (e.m.toNat=k):=fun j e he=>by
   show((((l.map (tellE .set))[(((j:Nat):Int)).toNat]?)).getD 0).toNat.testBit k=_
   rw[Int.toNat_natCast,List.getElem?_map,he]
   exact setM_bit e.m k
  constructor
  ·rintro(⟨x,hx,hb⟩|⟨x,hx,hb⟩)
   ·obtain⟨j,e,q1,q2,q3,rfl⟩:=refRow_mem.1 hx
    rw[hset j e q2] at hb
    exact⟨j,e,q1,q2,.inl q3,of_decide_eq_true hb⟩
   ·obtain⟨j,e,q1,q2,q3,rfl⟩:=refRow_mem.1 hx
    rw[hset j e q2] at hb
    exact⟨j,e,q1,q2,.inr q3,of_decide_eq_true hb⟩
  ·rintro⟨j,e,q1,q2,q3|q3,q4⟩
   ·exact .inl ⟨_,refRow_mem.2 ⟨j,e,q1,q2,q3,rfl⟩,by rw[hset j e q2];exact decide_eq_true q4⟩
   ·exact .inr ⟨_,refRow_mem.2 ⟨j,e,q1,q2,q3,rfl⟩,by rw[hset j e q2];exact decide_eq_true q4⟩
 omega
theorem sum_pop{s:Int}(h:0≤s∧s<32):decide (sumB s≥(2:Int))=decide (((popN s.toNat:Nat):Int)≥2):=by
 have key: ∀k:Fin 32,decide (sumB ((k.val:Nat):Int)≥(2:Int))=decide (((popN k.val:Nat):Int)≥2):=by decide+kernel
 have:=key ⟨s.toNat,by omega⟩
 simp only at this
 rw[Int.toNat_of_nonneg h.1] at this
 exact this
theorem link_eq{n:Nat}{l:List E4}(h:chkN ((n:Nat):Int) l=true){v:Int}(hv:0≤v∧v<(n:Int)):linkB (adjM n l) v=linkR l v:=by
 unfold linkB linkR
 rw[modes_eq h hv]
 obtain⟨_,_,_,h4⟩:=chkN_spec h
 exact(sum_pop (refModes_range (fun e he=>(h4 e he).2.2.2.2) v l.length (Nat.le_refl _))).symm
theorem deg_eq{n:Nat}{l:List E4}(h:chkN ((n:Nat):Int) l=true){v:Int}(hv:0≤v∧v<(n:Int)):endsN (adjM n l) v=refDeg l v:=by
 have e1:rowV (adjM n l).out v=refRow .fr l v l.length:=refRow_rowV hv (tell_range h (by simp))
 have e2:rowV (adjM n l).inn v=refRow .to l v l.length:=refRow_rowV hv (tell_range h (by simp))
 unfold endsN refDeg
 rw[e1,e2]
theorem refDeg_le(l:List E4)(v:Int):refDeg l v≤2*l.length:=by
 have h1:=refRow_len .fr l v l.length
 have h2:=refRow_len .to l v l.length
 unfold refDeg;omega
theorem bk_filter(f:Int→Nat)(vs:List Int)(d:Nat):bk (fun j=>f ((vs[j]?).getD 0)) (fun j=>(vs[j]?).getD 0) vs.length d=vs.filter fun x=>decide (f x=d):=by
 have: ∀i,i≤vs.length→bk (fun j=>f ((vs[j]?).getD 0)) (fun j=>(vs[j]?).getD 0) i d=(vs.take i).filter fun x=>decide (f x=d):=fun i=>by
  induction i with
  |zero=>intro _;rfl
  |succ i ih=>
   intro hi
   rw[bk_succ,ih (by omega),List.take_succ_eq_append_getElem (by omega),List.filter_append,List.getElem?_eq_getElem (by omega)]
   simp only [Option.getD_some]
   by_cases hh:f vs[i]=d<;>simp [hh]
 rw[this _ (Nat.le_refl _),List.take_length]
theorem fmap_congr{α β:Type}{f g:α→Option β}: ∀{l:List α},(∀x∈l,f x=g x)→l.filterMap f=l.filterMap g
 | [],_=>rfl
 |x::l,h=>by
  rw[List.filterMap_cons,List.filterMap_cons,h x (List.mem_cons_self ..),fmap_congr fun y hy=>h y (List.mem_cons_of_mem _ hy)]
theorem order_eq{n:Nat}{l:List E4}(h:chkN ((n:Nat):Int) l=true):orderL n l=orderR n l:=by
 obtain⟨_,_,h3,_⟩:=chkN_spec h
 have hd: ∀d,bk (keyV (adjM n l) (othersTo (adjM n l) n)) (fun j=>((othersTo (adjM n l) n)[j]?).getD 0) (othersTo (adjM n l) n).length d=refOrd l d n:=fun d=>by
  rw[show keyV (adjM n l) (othersTo (adjM n l) n)=fun j=>endsN (adjM n l) (((othersTo (adjM n l) n)[j]?).getD 0) from rfl,bk_filter]
  unfold othersTo refOrd
  rw[List.filter_filterMap]
  refine fmap_congr fun v hv=> ?_
  have hvn:0≤((v:Nat):Int)∧((v:Nat):Int)<(n:Int):=by have:=List.mem_range.1 hv;omega
  rw[link_eq h hvn]
  cases hl:linkR l ((v:Nat):Int) with
  |true=>simp
  |false=>
   have:=deg_eq h hvn
   by_cases hdd:refDeg l ((v:Nat):Int)=d
   ·simp [this,hdd,Option.filter]
   ·simp [this,hdd,Option.filter]
 have hnil: ∀d,2*l.length<d→refOrd l d n= []:=fun d hd0=>by
  unfold refOrd
  rw[List.filterMap_eq_nil_iff]
  intro v _
  have:=refDeg_le l ((v:Nat):Int)
  rw[if_neg (by omega)]
 have hto: ∀k,orderTo l n (2*l.length+1+k)=orderTo l n (2*l.length+1):=fun k=>by
  induction k with
  |zero=>rfl
  |succ k ih=>rw[show 2*l.length+1+(k+1)=(2*l.length+1+k)+1 by omega,orderTo_succ,ih,hnil _ (by omega),List.append_nil]
 unfold orderL sortedI orderR
 rw[←hto (801-(2*l.length+1)),show 2*l.length+1+(801-(2*l.length+1))=801 by omega]
 exact congrArg List.flatten (List.map_congr_left fun d _=>hd d)
end Go.Am
end
