/-
  Package hier: each of its laws for every argument; no conditions. The last text states which.
-/
import Derived.Test.YtdaglldahidmbaaGreatGAmPw
set_option linter.unusedVariables false
set_option linter.unusedSimpArgs false
noncomputable section
namespace Go.Am
open Go
def dX(c:Nat->Nat):Nat->Nat
 |0=>0
 |v+1=>dX c v+c v
theorem Gw(c:Nat->Nat): ∀{u v:Nat},u<=v->dX c u<=dX c v
 |u,0,h=>by have:u=0:=by omega
            subst this;exact Nat.le_refl _
 |u,v+1,h=>by
  by_cases e:u=v+1
  ·subst e;exact Nat.le_refl _
  ·have:=Gw c (show u<=v by omega)
   show dX c u<=dX c v+c v
   omega
theorem oK(c:Nat->Nat){u v:Nat}(h:u<v):dX c u+c u<=dX c v:=Gw c (show u+1<=v from h)
theorem Du{c d:Nat->Nat}: ∀{n:Nat},(∀v,v<n->c v=d v)->dX c n=dX d n
 |0,_=>rfl
 |n+1,h=>by show dX c n+c n=dX d n+d n;rw[Du (n:=n) fun v hv=>h v (by omega),h n (by omega)]
def bk{α:Type}(key:Nat->Nat)(item:Nat->α)(i v:Nat):List α:=(List.range i).filterMap fun j=>if key j=v then some (item j) else none
theorem uC{α:Type}(key:Nat->Nat)(item:Nat->α)(i v:Nat):bk key item (i+1) v=bk key item i v++(if key i=v then[item i] else[]):=by
 unfold bk
 rw[List.range_succ,List.filterMap_append]
 by_cases h:key i=v<;>simp [h]
theorem Nn{α β:Type}(key:Nat->Nat)(item:Nat->α)(f:α->β)(i v:Nat):(bk key item i v).map f=bk key (fun j=>f (item j)) i v:=by
 induction i with
 |zero=>rfl
 |succ i ih=>rw[uC,uC,List.map_append,ih];by_cases h:key i=v<;>simp [h]
def iR(key:Nat->Nat)(i v:Nat):Nat:=(bk key (fun _=>()) i v).length
theorem vU{α:Type}(key:Nat->Nat)(item:Nat->α)(i v:Nat):(bk key item i v).length=iR key i v:=by
 unfold iR
 rw[<-Nn key item (fun _=>())]
 simp
theorem jU(key:Nat->Nat)(i v:Nat):iR key (i+1) v=iR key i v+(if key i=v then 1 else 0):=by
 unfold iR
 rw[uC,List.length_append]
 by_cases h:key i=v<;>simp [h]
theorem Kj(key:Nat->Nat)(v:Nat): ∀{i j:Nat},i<=j->iR key i v<=iR key j v
 |i,0,h=>by have:i=0:=by omega
            subst this;exact Nat.le_refl _
 |i,j+1,h=>by
  by_cases e:i=j+1
  ·subst e;exact Nat.le_refl _
  ·have:=Kj key v (show i<=j by omega)
   rw[jU];omega
theorem Sj(key:Nat->Nat){i j:Nat}(h:i<j):iR key i (key i)<iR key j (key i):=by
 have h1:=Kj key (key i) (show i+1<=j from h)
 rw[jU,if_pos rfl] at h1
 omega
theorem tU(key:Nat->Nat)(n:Nat): ∀(i:Nat),(∀j,j<i->key j<n)->dX (iR key i) n=i
 |0,_=>by
  have: ∀n,dX (iR key 0) n=0:=fun n=>by
   induction n with
   |zero=>rfl
   |succ n ih=>show dX (iR key 0) n+iR key 0 n=0;rw[ih];rfl
  exact this n
 |i+1,h=>by
  have ih:=tU key n i fun j hj=>h j (by omega)
  have hk:=h i (by omega)
  have: ∀m,dX (iR key (i+1)) m=dX (iR key i) m+(if key i<m then 1 else 0):=fun m=>by
   induction m with
   |zero=>rfl
   |succ m ihm=>
    show dX (iR key (i+1)) m+iR key (i+1) m=dX (iR key i) m+iR key i m+_
    rw[ihm,jU]
    by_cases h1:key i<m
    ·rw[if_pos h1,if_neg (by omega),if_pos (by omega)];omega
    ·by_cases h2:key i=m
     ·rw[if_neg h1,if_pos h2,if_pos (by omega)];omega
     ·rw[if_neg h1,if_neg h2,if_neg (by omega)];omega
  rw[this,ih,if_pos hk]
structure Bk(c:Nat->Nat)(n:Nat)(key:Nat->Nat)(item:Nat->Value)(i:Nat)(mem:List Value):Prop where
 len:mem.length=dX c n
 le: ∀v,v<n->iR key i v<=c v
 at_: ∀v k,v<n->k<iR key i v->mem[dX c v+k]?=(bk key item i v)[k]?
theorem Bk.zero{c:Nat->Nat}{n:Nat}{key:Nat->Nat}{item:Nat->Value}{mem:List Value}(h:mem.length=dX c n):Bk c n key item 0 mem:=
 ⟨h,fun v _=>Nat.zero_le _,fun v k _ hk=>absurd hk (Nat.not_lt_zero _)⟩
theorem Bk.room{c:Nat->Nat}{n:Nat}{key:Nat->Nat}{item:Nat->Value}{i:Nat}{mem:List Value}(h:Bk c n key item i mem){v:Nat}(hv:v<n)(hc:iR key i v<c v):dX c v+iR key i v<mem.length:=by
 have:=oK c hv
 rw[h.len];omega
theorem Bk.step{c:Nat->Nat}{n:Nat}{key:Nat->Nat}{a0:Nat->Value}{i:Nat}{mem:List Value}(h:Bk c n key a0 i mem)(hv:key i<n)(hc:iR key i (key i)<c (key i)):
  Bk c n key a0 (i+1) (splice mem (dX c (key i)+iR key i (key i)) [a0 i]):=by
 have a2:=h.room hv hc
 rw[gM _ _ _ a2]
 refine⟨by rw[List.length_set];exact h.len,fun v hvn=> ?_,fun v k hvn hk=> ?_⟩
 ·rw[jU]
  by_cases e:key i=v
  ·subst e;rw[if_pos rfl];omega
  ·rw[if_neg e];exact h.le v hvn
 ·rw[uC]
  rw[jU] at hk
  by_cases e:key i=v
  ·subst e
   rw[if_pos rfl] at hk⊢
   by_cases a1:k<iR key i (key i)
   ·rw[List.getElem?_set_ne (by omega),h.at_ _ _ hvn a1,List.getElem?_append_left (by rw[vU];exact a1)]
   ·have:k=iR key i (key i):=by omega
    subst this
    rw[List.getElem?_set_self a2,List.getElem?_append_right (by rw[vU];exact Nat.le_refl _),vU,Nat.sub_self]
    rfl
  ·rw[if_neg e] at hk⊢
   rw[List.append_nil]
   have hle:=h.le v hvn
   have a3:dX c (key i)+iR key i (key i)≠dX c v+k:=by
    rcases Nat.lt_or_gt_of_ne e with h1|h1
    ·have:=oK c h1;omega
    ·have:=oK c h1;omega
   rw[List.getElem?_set_ne a3]
   exact h.at_ v k hvn (by omega)
theorem Bk.row{c:Nat->Nat}{n:Nat}{key:Nat->Nat}{a0:Nat->Value}{i:Nat}{mem:List Value}(h:Bk c n key a0 i mem){v:Nat}(hv:v<n):(mem.drop (dX c v)).take (iR key i v)=bk key a0 i v:=by
 apply List.ext_getElem?
 intro k
 by_cases hk:k<iR key i v
 ·rw[List.getElem?_take_of_lt hk,List.getElem?_drop,h.at_ v k hv hk]
 ·rw[List.getElem?_eq_none (by simp;omega),List.getElem?_eq_none (by rw[vU];omega)]
theorem Bk.whole{c:Nat->Nat}{n:Nat}{key:Nat->Nat}{a0:Nat->Value}{i:Nat}{mem:List Value}(h:Bk c n key a0 i mem)(hf: ∀v,v<n->iR key i v=c v):mem=((List.range n).map (bk key a0 i)).flatten:=by
 have: ∀m,m<=n->mem.take (dX c m)=((List.range m).map (bk key a0 i)).flatten:=fun m=>by
  induction m with
  |zero=>intro _;rfl
  |succ m ih=>
   intro hm
   have h1:=h.row (v:=m) (by omega)
   rw[hf m (by omega)] at h1
   show mem.take (dX c m+c m)=_
   rw[List.take_add,ih (by omega),h1,List.range_succ]
   simp
 rw[<-this n (Nat.le_refl _),<-h.len,List.take_length]
def Ah(m:Nat)(c ln:Nat->Nat)(v:Nat):Value:=aC m (dX c v) (ln v) (c v+1)
def dQ(m:Nat)(c ln:Nat->Nat)(n:Nat):List Value:=(List.range n).map (Ah m c ln)
theorem fU(m:Nat)(c ln:Nat->Nat)(n:Nat):(dQ m c ln n).length=n:=by simp [dQ]
theorem hZ(m:Nat)(c ln:Nat->Nat){n v:Nat}(h:v<n):(dQ m c ln n)[v]?=some (Ah m c ln v):=by simp [dQ,h]
theorem vG(m:Nat)(c:Nat->Nat)(key:Nat->Nat)(i n:Nat)(h:key i<n):splice (dQ m c (iR key i) n) (key i) [aC m (dX c (key i)) (iR key i (key i)+1) (c (key i)+1)]=dQ m c (iR key (i+1)) n:=by
 rw[gM _ _ _ (by rw[fU];exact h)]
 apply List.ext_getElem?
 intro v
 by_cases e:key i=v
 ·subst e
  rw[List.getElem?_set_self (by rw[fU];exact h),hZ _ _ _ h]
  unfold Ah
  rw[jU,if_pos rfl]
 ·rw[List.getElem?_set_ne e]
  by_cases hv:v<n
  ·rw[hZ _ _ _ hv,hZ _ _ _ hv]
   unfold Ah
   rw[jU,if_neg e];rfl
  ·rw[List.getElem?_eq_none (by rw[fU];omega),List.getElem?_eq_none (by rw[fU];omega)]
def aW(rs:List (List Int))(v:Value)(M:aB):Prop:= ∃E c blk,v=aC E 0 rs.length c/\M.get E=some blk/\blk.esz=1/\blk.cs.length=rs.length/\ ∀(u:Nat) (r:List Int),rs[u]?=some r-> ∃x,blk.cs[u]?=some x/\aH r x M
instance:AP aW:=⟨fun{x y _ _} ⟨E,c,blk,h1,h2,_,_,h5⟩ ⟨E',c',blk',k1,k2,_,_,k5⟩=>by
 rw[h1] at k1
 simp only [Value.slice.injEq,Option.some.injEq,Addr.mk.injEq,and_true] at k1
 obtain⟨rfl,hl,_⟩:=k1
 rw[h2] at k2;cases k2
 apply List.ext_getElem?
 intro u
 by_cases hu:u<x.length
 ·obtain⟨a,a1,a2⟩:=h5 u x[u] (xAe hu)
  obtain⟨b,b1,b2⟩:=k5 u y[u] (xAe (by omega))
  rw[a1] at b1;cases b1
  rw[xAe hu,xAe (by omega),AP.uniq (R:=aH) a2 b2]
 ·rw[List.getElem?_eq_none (by omega),List.getElem?_eq_none (by omega)],
 fun hE ⟨E,c,blk,h1,h2,h3,h4,h5⟩=>⟨E,c,blk,h1,hE _ _ h2,h3,h4,fun u r hr=>let ⟨x,a,b⟩:=h5 u r hr;⟨x,a,AP.ext (R:=aH) hE b⟩⟩⟩
theorem Uy{M:aB}{E m n k:Nat}{c:Nat->Nat}{key:Nat->Nat}{a0:Nat->Int}{mem:List Value}{tE tm wE wm:Nat}{qE qm:Bool}(hE:M.get E=some ⟨dQ m c (iR key k) n,tE,1,wE,qE⟩)(hm:M.get m=some ⟨mem,tm,1,wm,qm⟩)(h:Bk c n key (fun j=>i64 (a0 j)) k mem)(hk:k<=9223372036854775807)(cp:Nat):
  aW ((List.range n).map (bk key a0 k)) (aC E 0 n cp) M:=by
 refine⟨E,cp,_,by simp,hE,rfl,by rw[fU];simp,fun u r hr=> ?_⟩
 have hu:u<n:=by
  have:=(xAg.1 hr).1
  simpa using this
 simp [hu] at hr
 subst hr
 refine⟨_,hZ _ _ _ hu,?_⟩
 unfold Ah
 have hb:(bk key a0 k u).map i64=bk key (fun j=>i64 (a0 j)) k u:=Nn _ _ _ _ _
 have h1:=h.row hu
 have a1:(bk key a0 k u).length=iR key k u:=vU _ _ _ _
 have hle:=h.le u hu
 have hnx:=oK c hu
 rw[<-a1]
 refine aJ.of_blk (blk:=⟨mem,tm,1,wm,qm⟩) (pre:=mem.take (dX c u)) (post:=mem.drop (dX c u+iR key k u)) hm ?_ ?_ (fun _ _=>rfl) rfl ?_
 ·show mem=_
  rw[xJ,hb,<-h1,List.append_assoc,<-List.drop_drop,List.take_append_drop,List.take_append_drop]
 ·rw[List.length_take,h.len]
  omega
 ·rw[a1]
  have: ∀i,iR key i u<=i:=fun i=>by
   induction i with
   |zero=>exact Nat.le_refl _
   |succ i ih=>rw[jU];split<;>omega
  exact Nat.le_trans (this k) hk
def eQ(ends:List Int)(j:Nat):Nat:=((ends[j]?).getD 0).toNat
theorem Bp{ends:List Int}{j:Nat}(h:j<ends.length):eQ ends j=(ends[j]).toNat:=by unfold eQ;rw[xAe h];rfl
theorem Bq{ends:List Int}{n:Nat}(hb: ∀x∈ends,0<=x/\x<(n:Int)){j:Nat}(h:j<ends.length):eQ ends j<n:=by
 rw[Bp h]
 have:=hb _ (List.getElem_mem h)
 omega
def gZ(key:Nat->Nat)(i n:Nat):List Value:=(List.range n).map fun v=>i64 ((iR key i v:Nat):Int)
theorem iT(key:Nat->Nat)(i n:Nat):(gZ key i n).length=n:=by simp [gZ]
theorem iS(key:Nat->Nat)(i:Nat){n v:Nat}(h:v<n):(gZ key i n)[v]?=some (i64 ((iR key i v:Nat):Int)):=by simp [gZ,h]
theorem uZ(key:Nat->Nat)(n:Nat):gZ key 0 n=List.replicate n (i64 0):=by
 apply List.ext_getElem?
 intro v
 by_cases hv:v<n
 ·rw[iS _ _ hv,List.getElem?_replicate,if_pos hv];rfl
 ·rw[List.getElem?_eq_none (by rw[iT];omega),List.getElem?_eq_none (by simp;omega)]
theorem uY(key:Nat->Nat){i n:Nat}(h:key i<n):splice (gZ key i n) (key i) [i64 ((iR key i (key i)+1:Nat):Int)]=gZ key (i+1) n:=by
 rw[gM _ _ _ (by rw[iT];exact h)]
 apply List.ext_getElem?
 intro v
 by_cases e:key i=v
 ·subst e
  rw[List.getElem?_set_self (by rw[iT];exact h),iS _ _ h,jU,if_pos rfl]
 ·rw[List.getElem?_set_ne e]
  by_cases hv:v<n
  ·rw[iS _ _ hv,iS _ _ hv,jU,if_neg e];rfl
  ·rw[List.getElem?_eq_none (by rw[iT];omega),List.getElem?_eq_none (by rw[iT];omega)]
theorem Cq(key:Nat->Nat)(i v:Nat):iR key i v<=i:=by
 induction i with
 |zero=>exact Nat.le_refl _
 |succ i ih=>rw[jU];split<;>omega
theorem Vf{i:Nat}(h:i<1099511627776):IntKind.wrap .i64 ((i:Nat):Int)=((i:Nat):Int):=Go.Am.eG (by omega) (by omega)
theorem Et{i j:Nat}(h:i+j<1099511627776):IntKind.wrap .i64 (((i:Nat):Int)+((j:Nat):Int))=((i+j:Nat):Int):=by
 rw[<-Vf h];congr 1
def mJ(n:Nat)(ends:List Int):List (List Int):=(List.range n).map (bk (eQ ends) (fun j=>((j:Nat):Int)) ends.length)
theorem Eh(n:Nat)(ends:List Int):(mJ n ends).length=n:=by simp [mJ]
def Ug(x:Nat×List Int)(nx:Nat)(v:Value)(M:aB):Prop:= ∃E D,v=aC E 0 x.1 (x.1+1)/\nx<=E/\nx<=D/\D≠E/\M.get E=some ⟨dQ D (iR (eQ x.2) x.2.length) (fun _=>0) x.1,22,1,0,true⟩/\M.get D=some ⟨List.replicate x.2.length (i64 0),3,1,0,true⟩
instance:AQ Ug:=⟨fun hE ⟨E,D,h1,h2,h3,h4,h5,h6⟩=>⟨E,D,h1,h2,h3,h4,hE _ _ h5,hE _ _ h6⟩⟩
structure eV where
 out:List (List Int)
 inn:List (List Int)
 to:List Int
 set:List Int
def jA(n:Nat)(l:List E4):eV:=⟨mJ n (l.map (eC .fr)),mJ n (l.map (eC .to)),l.map (eC .to),l.map (eC .set)⟩
def eT(ty:TypeId)(a:eV)(v:Value)(M:aB):Prop:= ∃b o i t s,v=pt b 0/\M.get b=some ⟨[o,i,t,s],ty,4,0,true⟩/\aW a.out o M/\aW a.inn i M/\aH a.to t M/\aH a.set s M
instance(ty:TypeId):AP (eT ty):=⟨fun{x y _ _} ⟨b,o,i,t,s,h1,h2,h3,h4,h5,h6⟩ ⟨b',o',i',t',s',k1,k2,k3,k4,k5,k6⟩=>by
 rw[h1] at k1
 simp only [Value.pointer.injEq,Option.some.injEq,Addr.mk.injEq,and_true] at k1
 subst k1
 rw[h2] at k2
 simp only [Option.some.injEq,aU.mk.injEq,List.cons.injEq,and_true,true_and] at k2
 obtain⟨rfl,rfl,rfl,rfl⟩:=k2
 have e1:=AP.uniq (R:=aW) h3 k3;have e2:=AP.uniq (R:=aW) h4 k4;have e3:=AP.uniq (R:=aH) h5 k5;have e4:=AP.uniq (R:=aH) h6 k6
 cases x;cases y;simp_all,
 fun hE ⟨b,o,i,t,s,h1,h2,h3,h4,h5,h6⟩=>⟨b,o,i,t,s,h1,hE _ _ h2,AP.ext (R:=aW) hE h3,AP.ext (R:=aW) hE h4,AP.ext (R:=aH) hE h5,AP.ext (R:=aH) hE h6⟩⟩
theorem Gd{x n:Int}:eM x n=true↔0<=x/\x<n:=by simp [eM]
theorem fY{n:Int}{l:List E4}(h:fC n l=true):1<=n/\n<=60/\l.length<=400/\ ∀e∈l,0<=e.f/\e.f<n/\0<=e.t/\e.t<n/\Qz e:=by
 simp only [fC,gA,Bool.and_eq_true,Bool.not_eq_true',Bool.or_eq_false_iff,Bool.not_eq_false',decide_eq_true_eq,decide_eq_false_iff_not,List.all_eq_true] at h
 obtain⟨⟨⟨h1,h2⟩,h3⟩,h4⟩:=h
 refine⟨h1,h2,by omega,fun e he=> ?_⟩
 have:=h4 e he
 simp only [iI,Bool.and_eq_true,Gd,decide_eq_true_eq] at this
 obtain⟨⟨⟨⟨h5,h6⟩,h7⟩,h8⟩,h9⟩:=this
 exact⟨h5.1,h5.2,h6.1,h6.2,h7⟩
theorem mX{n:Int}{l:List E4}(h:fC n l=true){k:uT}(hk:k≠ .set): ∀x∈l.map (eC k),0<=x/\x<n:=fun x hx=>by
 obtain⟨e,he,rfl⟩:=List.mem_map.1 hx
 obtain⟨_,_,_,hh⟩:=fY h
 have:=hh e he
 cases k
 ·exact⟨this.2.2.1,this.2.2.2.1⟩
 ·exact⟨this.1,this.2.1⟩
 ·exact absurd rfl hk
def dR(rs:List (List Int))(v:Int):List Int:=if 0<=v then(rs[v.toNat]?).getD [] else[]
theorem Di{P:Program}{rs:List (List Int)}{E n c u:Nat}{r:List Int}{M:aB}{ty:TypeId}(h:aW rs (aC E 0 n c) M)(hu:rs[u]?=some r)(hd:(P.underlying ty).map dV=some false): ∃a c',bA P ty ⟨E,0+u*1,none⟩ M=some (.slice a r.length c')/\aH r (.slice a r.length c') M:=by
 obtain⟨E',c0,blk,h1,h2,_,_,h5⟩:=h
 simp only [Value.slice.injEq,Option.some.injEq,Addr.mk.injEq,and_true] at h1
 obtain⟨rfl,_,_⟩:=h1
 obtain⟨x,hx,hp⟩:=h5 u r hu
 obtain⟨a,c',rfl⟩:=aJ.form hp
 exact⟨a,c',bI (a:=⟨E,0+u*1,none⟩) hd h2 (by simpa using hx),hp⟩
theorem eY{rs:List (List Int)}{v:Value}{M:aB}(h:aW rs v M): ∃E c,v=aC E 0 rs.length c:=by
 obtain⟨E,c,blk,h1,_⟩:=h
 exact⟨E,c,h1⟩
def rE(a:eV):Prop:=(∀r∈a.out,r.length<=400/\ ∀j∈r,0<=j/\j<(a.set.length:Int))/\(∀r∈a.inn,r.length<=400/\ ∀j∈r,0<=j/\j<(a.set.length:Int))/\a.set.length<=400/\ ∀z∈a.set,0<=z/\z<32
theorem Yv{α:Type}{key:Nat->Nat}{a0:Nat->α}{i v:Nat}{x:α}:x∈bk key a0 i v↔ ∃j,j<i/\key j=v/\a0 j=x:=by
 unfold bk
 simp only [List.mem_filterMap,List.mem_range]
 constructor
 ·rintro⟨j,h1,h2⟩
  by_cases h:key j=v
  ·rw[if_pos h] at h2;exact⟨j,h1,h,Option.some.inj h2⟩
  ·rw[if_neg h] at h2;cases h2
 ·rintro⟨j,h1,h2,rfl⟩
  exact⟨j,h1,by rw[if_pos h2]⟩
theorem Ha{n:Nat}{ends:List Int}(h:ends.length<=400): ∀r∈mJ n ends,r.length<=400/\ ∀j∈r,0<=j/\j<(ends.length:Int):=fun r hr=>by
 obtain⟨v,_,rfl⟩:=List.mem_map.1 hr
 refine⟨by rw[vU];exact Nat.le_trans (Cq _ _ _) h,fun j hj=> ?_⟩
 obtain⟨k,h1,_,rfl⟩:=Yv.1 hj
 omega
theorem wM{m:Int}(h0:0<=m)(h5:m<5):0<=wL m/\wL m<32:=by
 have:m=0\/m=1\/m=2\/m=3\/m=4:=by omega
 rcases this with rfl|rfl|rfl|rfl|rfl<;>decide
theorem Lp{n:Nat}{l:List E4}(h:fC ((n:Nat):Int) l=true):rE (jA n l):=by
 obtain⟨_,_,h3,h4⟩:=fY h
 have e1:((l.map (eC .set)).length:Int)=((l.map (eC .fr)).length:Int):=by simp
 have e2:((l.map (eC .set)).length:Int)=((l.map (eC .to)).length:Int):=by simp
 refine⟨?_,?_,by simpa [jA] using h3,fun z hz=> ?_⟩
 ·show∀r∈mJ n _,r.length<=400/\ ∀j∈r,0<=j/\j<((l.map (eC .set)).length:Int)
  rw[e1];exact Ha (by simpa using h3)
 ·show∀r∈mJ n _,r.length<=400/\ ∀j∈r,0<=j/\j<((l.map (eC .set)).length:Int)
  rw[e2];exact Ha (by simpa using h3)
 ·obtain⟨e,he,rfl⟩:=List.mem_map.1 hz
  exact wM (h4 e he).2.2.2.2.1 (h4 e he).2.2.2.2.2
theorem qK{rs:List (List Int)}{p:List Int->Prop}(h: ∀r∈rs,p r)(h0:p [])(v:Int):p (dR rs v):=by
 unfold dR
 split
 ·cases hh:rs[v.toNat]? with
  |none=>exact h0
  |some r=>exact h r (xAh hh)
 ·exact h0
def eZ(set es:List Int):Int:=es.foldl (fun s i=>Mv s ((set[i.toNat]?).getD 0)) 0
def jZ(a:eV)(v:Int):Int:=Mv (eZ a.set (dR a.out v)) (eZ a.set (dR a.inn v))
def mV(ty:TypeId)(x:Nat×eV)(v:Value)(M:aB):Prop:= ∃p,v= .agg ⟨[i64 ((x.1:Nat):Int),p]⟩/\eT ty x.2 p M
instance(ty:TypeId):AP (mV ty):=⟨fun{x y _ _} ⟨p,h1,h2⟩ ⟨q,k1,k2⟩=>by
 rw[h1] at k1
 simp only [Value.agg.injEq,Array.mk.injEq,List.cons.injEq,and_true] at k1
 obtain⟨e1,rfl⟩:=k1
 have e2:=AP.uniq (R:=eT ty) h2 k2
 obtain⟨a,b⟩:=x;obtain⟨c,d⟩:=y
 have h3:a=c:=by have:((a:Nat):Int)=((c:Nat):Int):=by simpa [i64] using e1
                 omega
 have h4:b=d:=e2
 rw[h3,h4],fun hE ⟨p,h1,h2⟩=>⟨p,h1,AP.ext (R:=eT ty) hE h2⟩⟩
def pU(k:Nat)(v:Value)(_:aB):Prop:=v= .int .u64 ((k:Nat):Int)
instance:AP pU:=⟨fun h k=>by unfold pU at h k;rw[h] at k;simp at k;omega,fun _ h=>h⟩
def Iy(n:Nat):Nat:=n%2+n/2%2+n/4%2+n/8%2+n/16%2
theorem Dx{x y:Int}(hx:0<=x/\x<32)(hy:0<=y/\y<32):Mv x y=((x.toNat|||y.toNat:Nat):Int)/\0<=Mv x y/\Mv x y<32:=by
 have h:=Wv (x:=x.toNat) (y:=y.toNat) (by omega) (by omega)
 rw[Int.toNat_of_nonneg hx.1,Int.toNat_of_nonneg hy.1] at h
 have h2:x.toNat|||y.toNat<2^5:=Nat.or_lt_two_pow (by omega) (by omega)
 exact⟨h,by omega,by omega⟩
theorem oH{set:List Int}(hs: ∀z∈set,0<=z/\z<32)(es:List Int):0<=eZ set es/\eZ set es<32:=by
 unfold eZ
 have: ∀(es:List Int) (s:Int),0<=s/\s<32->0<=es.foldl (fun s i=>Mv s ((set[i.toNat]?).getD 0)) s/\es.foldl (fun s i=>Mv s ((set[i.toNat]?).getD 0)) s<32:=fun es=>by
  induction es with
  |nil=>intro s h;exact h
  |cons e es ih=>
   intro s h
   have h2:0<=((set[e.toNat]?).getD 0)/\((set[e.toNat]?).getD 0)<32:=by
    cases hh:set[e.toNat]? with
    |none=>simp
    |some z=>exact hs z (xAh hh)
   exact ih _ (Dx h h2).2
 exact this es 0 (by omega)
theorem rV{a:eV}(h:rE a)(v:Int):0<=jZ a v/\jZ a v<32:=(Dx (oH h.2.2.2 _) (oH h.2.2.2 _)).2
theorem wrapU{x:Int}(h:0<=x/\x<32):IntKind.wrap .u64 x=((x.toNat:Nat):Int):=by
 rw[Int.toNat_of_nonneg h.1]
 show x%(2^64)=x
 exact Int.emod_eq_of_lt h.1 (by omega)
def jN(a:eV)(v:Int):Bool:=decide (((Iy (jZ a v).toNat:Nat):Int)>=2)
def dU(a:eV)(v:Int):Nat:=(dR a.out v).length+(dR a.inn v).length
theorem tM{a:eV}(h:rE a)(v:Int):dU a v<=800:=by
 have h1:=qK (p:=fun r=>r.length<=400) (fun r hr=>(h.1 r hr).1) (by decide) v
 have h2:=qK (p:=fun r=>r.length<=400) (fun r hr=>(h.2.1 r hr).1) (by decide) v
 unfold dU;omega
def Dy(f:FuncId)(ty:TypeId)(x:Nat×eV)(v:Value)(M:aB):Prop:= ∃s,v= .func (.func f) ⟨[s]⟩ ⟨[]⟩/\mV ty x s M
instance(f:FuncId)(ty:TypeId):AP (Dy f ty):=⟨fun{x y _ _} ⟨p,h1,h2⟩ ⟨q,k1,k2⟩=>by
 rw[h1] at k1
 simp only [Value.func.injEq,true_and,Array.mk.injEq,List.cons.injEq,and_true] at k1
 subst k1
 exact AP.uniq (R:=mV ty) h2 k2,fun hE ⟨p,h1,h2⟩=>⟨p,h1,AP.ext (R:=mV ty) hE h2⟩⟩
def Jm(M0 M:aB)(S:Value)(l:List Int):Prop:=(S=eW/\l= [])\/ ∃b,S=aC b 0 l.length l.length/\l≠ []/\M0.next<=b/\M.get b=some ⟨l.map i64,3,1,0,true⟩
theorem Jm.keep{M0 M M':aB}{S:Value}{l:List Int}(h:Jm M0 M S l)(hk: ∀id b,M0.next<=id->M.get id=some b->M'.get id=some b):Jm M0 M' S l:=by
 rcases h with h|⟨b,h1,h2,h3,h4⟩
 ·exact .inl h
 ·exact .inr ⟨b,h1,h2,h3,hk _ _ h3 h4⟩
theorem Jm.new{M0 M:aB}{S:Value}{l:List Int}{n:Nat}(h:Jm M0 M S l)(hl:l.length<=9223372036854775807)(hn:n<=M0.next):aH l S (hid n M):=by
 rcases h with⟨rfl,rfl⟩|⟨b,rfl,_,h3,h4⟩
 ·exact aJ.nil none
 ·exact aJ.of_blk' (jJ (by omega) h4) rfl (xJ l).symm (fun _ _=>rfl) hl
def dN(a:eV)(i:Nat):List Int:=(List.range i).filterMap fun v=>if jN a ((v:Nat):Int) then none else some ((v:Nat):Int)
theorem vC(a:eV)(i:Nat):dN a (i+1)=dN a i++(if jN a ((i:Nat):Int) then[] else[((i:Nat):Int)]):=by
 unfold dN
 rw[List.range_succ,List.filterMap_append]
 cases h:jN a ((i:Nat):Int)<;>simp [h]
theorem sB(a:eV)(i:Nat):(dN a i).length<=i:=by
 have:=List.length_filterMap_le (fun v:Nat=>if jN a ((v:Nat):Int) then none else some ((v:Nat):Int)) (List.range i)
 simpa [dN] using this
def vD(sz:List Nat)(v:Value)(M:aB):Prop:=aH (sz.map fun k=>((k:Nat):Int)) v M
theorem An: ∀{a b:List Nat},a.map (fun k=>((k:Nat):Int))=b.map (fun k=>((k:Nat):Int))->a=b
 | [],[],_=>rfl
 | [],_::_,h=>by simp at h
 |_::_,[],h=>by simp at h
 |x::a,y::b,h=>by
  simp only [List.map_cons,List.cons.injEq] at h
  have:x=y:=by omega
  rw[this,An h.2]
instance:AP vD:=⟨fun h k=>An (AP.uniq (R:=aH) h k),fun hE h=>AP.ext (R:=aH) hE h⟩
def Ww(x:Nat×Nat)(v:Value)(M:aB):Prop:=v=aC x.1 0 x.2 (x.2+1)/\ ∃cd,M.get x.1=some ⟨cd,3,1,0,true⟩
instance:AP Ww:=⟨fun{x y _ _} ⟨h,_⟩ ⟨k,_⟩=>by
 rw[h] at k
 simp only [Value.slice.injEq,Option.some.injEq,Addr.mk.injEq,and_true] at k
 obtain⟨a,b⟩:=x;obtain⟨c,d⟩:=y
 have h1:a=c:=k.1
 have h2:b=d:=k.2.1
 rw[h1,h2],fun hE ⟨h,cd,k⟩=>⟨h,cd,hE _ _ k⟩⟩
def oS(sz:List Nat)(d:Nat):Nat:=(sz[d]?).getD 0
def iD(a:eV)(vs:List Int)(j:Nat):Nat:=dU a ((vs[j]?).getD 0)
def gW(a:eV)(vs:List Int):List Nat:=(List.range 801).map (iR (iD a vs) vs.length)
theorem yY{a:eV}{vs:List Int}{d:Nat}(h:d<801):oS (gW a vs) d=iR (iD a vs) vs.length d:=by
 unfold oS gW
 rw[List.getElem?_map,List.getElem?_range h];rfl
def Oo(x:(Nat×Nat)×List Nat)(nx:Nat)(v:Value)(M:aB):Prop:= ∃E,v=aC E 0 x.2.length (x.2.length+1)/\nx<=E/\M.get E=some ⟨dQ x.1.1 (oS x.2) (fun _=>0) x.2.length,22,1,0,true⟩
instance:AQ Oo:=⟨fun hE ⟨E,h1,h2,h3⟩=>⟨E,h1,h2,hE _ _ h3⟩⟩
def sE(a:eV)(vs:List Int):List Int:=((List.range 801).map (bk (iD a vs) (fun j=>(vs[j]?).getD 0) vs.length)).flatten
theorem sG(a:eV)(vs:List Int):(gW a vs).length=801:=by simp [gW]
theorem He{a:eV}(h:rE a)(vs:List Int):dX (oS (gW a vs)) 801=vs.length:=by
 rw[Du (d:=iR (iD a vs) vs.length) fun v hv=>yY hv]
 exact tU (iD a vs) 801 vs.length fun j _=>by have:=tM h ((vs[j]?).getD 0);unfold iD;omega
theorem Vz{α β:Type}(L:List Nat)(key:Nat->Nat)(item:Nat->α)(f:α->β)(k:Nat):(L.map (bk key (fun j=>f (item j)) k)).flatten=((L.map (bk key item k)).flatten).map f:=by
 induction L with
 |nil=>rfl
 |cons d L ih=>simp only [List.map_cons,List.flatten_cons,List.map_append,ih,Nn]
theorem Rj{a:eV}{vs:List Int}{mem:List Value}(h:Bk (oS (gW a vs)) 801 (iD a vs) (fun j=>i64 ((vs[j]?).getD 0)) vs.length mem):mem=(sE a vs).map i64:=
 (h.whole fun v hv=>(yY hv).symm).trans (Vz _ _ _ _ _)
theorem Zo{α:Type}(key:Nat->Nat)(a0:Nat->α)(k m:Nat):((List.range m).map (bk key a0 k)).flatten.length=dX (iR key k) m:=by
 induction m with
 |zero=>rfl
 |succ m ih=>
  rw[List.range_succ,List.map_append,List.flatten_append,List.length_append,ih]
  show _+(bk _ _ _ _++ []).length=dX _ m+iR _ _ m
  rw[List.append_nil,vU]
theorem Ax{a:eV}(ha:rE a)(vs:List Int):(sE a vs).length=vs.length:=
 (Zo _ _ _ _).trans (tU (iD a vs) 801 vs.length fun j _=>by have:=tM ha ((vs[j]?).getD 0);unfold iD;omega)
def bW(n:Nat)(l:List E4):List Int:=sE (jA n l) (dN (jA n l) n)
end Go.Am
end

noncomputable section
namespace Go.Am
open Go
def pRefA(ty:TypeId)(x:Nat×List E4)(v:Value)(M:aB):Prop:= ∃b L,v=pt b 0/\M.get b=some ⟨[i64 ((x.1:Nat):Int),L],ty,2,0,true⟩/\aS x.2 L M
instance(ty:TypeId):AP (pRefA ty):=⟨fun{x y _ _} ⟨b,L,h1,h2,h3⟩ ⟨c,K,k1,k2,k3⟩=>by
 rw[h1] at k1
 simp only [Value.pointer.injEq,Option.some.injEq,Addr.mk.injEq,and_true] at k1
 subst k1
 rw[h2] at k2
 simp only [Option.some.injEq,aU.mk.injEq,List.cons.injEq,and_true] at k2
 obtain⟨e1,rfl⟩:=k2
 have e2:=AP.uniq (R:=aS) h3 k3
 obtain⟨a,b⟩:=x;obtain⟨c,d⟩:=y
 have h4:a=c:=by have:((a:Nat):Int)=((c:Nat):Int):=by simpa [i64] using e1
                 omega
 have h5:b=d:=e2
 rw[h4,h5],fun hE ⟨b,L,h1,h2,h3⟩=>⟨b,L,h1,hE _ _ h2,AP.ext (R:=aS) hE h3⟩⟩
def lH(k:uT)(l:List E4)(v:Int)(i:Nat):List Int:=(List.range i).filterMap fun j=>match l[j]? with
 |some e=>if eC k e=v then some ((j:Nat):Int) else none
 |none=>none
theorem Ma(k:uT){l:List E4}(v:Int){i:Nat}{e:E4}(h:l[i]?=some e):lH k l v (i+1)=lH k l v i++(if eC k e=v then[((i:Nat):Int)] else[]):=by
 unfold lH
 rw[List.range_succ,List.filterMap_append]
 by_cases hh:eC k e=v<;>simp [h,hh]
theorem Ec(k:uT)(l:List E4)(v:Int)(i:Nat):(lH k l v i).length<=i:=by
 have:=List.length_filterMap_le (fun j:Nat=>match l[j]? with
  |some e=>if eC k e=v then some ((j:Nat):Int) else none
  |none=>none) (List.range i)
 simpa [lH] using this
theorem qJ{k:uT}{n:Nat}{l:List E4}{v:Int}(hv:0<=v/\v<(n:Int))(hb: ∀x∈l.map (eC k),0<=x/\x<(n:Int)):dR (mJ n (l.map (eC k))) v=lH k l v l.length:=by
 unfold dR
 rw[if_pos hv.1]
 have h1:(mJ n (l.map (eC k)))[v.toNat]?=some (bk (eQ (l.map (eC k))) (fun j=>((j:Nat):Int)) (l.map (eC k)).length v.toNat):=by
  unfold mJ
  rw[List.getElem?_map,List.getElem?_range (by omega)];rfl
 rw[h1,Option.getD_some,List.length_map]
 have: ∀i,i<=l.length->bk (eQ (l.map (eC k))) (fun j=>((j:Nat):Int)) i v.toNat=lH k l v i:=fun i=>by
  induction i with
  |zero=>intro _;rfl
  |succ i ih=>
   intro hi
   have he:l[i]?=some l[i]:=xAe (by omega)
   rw[uC,Ma k v he,ih (by omega)]
   have hbi:=hb (eC k l[i]) (List.mem_map.2 ⟨l[i],List.getElem_mem _,rfl⟩)
   have hk:eQ (l.map (eC k)) i=(eC k l[i]).toNat:=by rw[Bp (by simp;omega)];simp
   rw[hk]
   by_cases hh:eC k l[i]=v
   ·rw[if_pos hh,if_pos (by rw[hh])]
   ·rw[if_neg hh,if_neg (by omega)]
 exact this _ (Nat.le_refl _)
def jD(l:List E4)(v:Int)(i:Nat):Int:=(l.take i).foldl (fun s e=>if e.f=v\/e.t=v then Mv s (wL e.m) else s) 0
theorem vE{l:List E4}(v:Int){i:Nat}{e:E4}(h:l[i]?=some e):jD l v (i+1)=if e.f=v\/e.t=v then Mv (jD l v i) (wL e.m) else jD l v i:=by
 obtain⟨hi,rfl⟩:=xAg.1 h
 unfold jD
 rw[List.take_succ_eq_append_getElem hi,List.foldl_append]
 rfl
def aBb(s:Int):Int:=IntKind.wrap .i64 (IntKind.wrap .i64 (IntKind.wrap .i64 (IntKind.wrap .i64 (IntKind.wrap .i64 ((0:Int)+Rw (s.fdiv (2^(0:Int).toNat)) (1:Int))+Rw (s.fdiv (2^(1:Int).toNat)) (1:Int))+Rw (s.fdiv (2^(2:Int).toNat)) (1:Int))+Rw (s.fdiv (2^(3:Int).toNat)) (1:Int))+Rw (s.fdiv (2^(4:Int).toNat)) (1:Int))
def Al(l:List E4)(v:Int):Bool:=decide (aBb (jD l v l.length)>=(2:Int))
def qU(l:List E4)(v:Int):Nat:=(lH .fr l v l.length).length+(lH .to l v l.length).length
def mW(l:List E4)(d i:Nat):List Int:=(List.range i).filterMap fun v=>if Al l ((v:Nat):Int)=false/\qU l ((v:Nat):Int)=d then some ((v:Nat):Int) else none
theorem Lz(l:List E4)(d i:Nat):mW l d (i+1)=mW l d i++(if Al l ((i:Nat):Int)=false/\qU l ((i:Nat):Int)=d then[((i:Nat):Int)] else[]):=by
 unfold mW
 rw[List.range_succ,List.filterMap_append]
 by_cases h:Al l ((i:Nat):Int)=false/\qU l ((i:Nat):Int)=d<;>simp [h]
def nB(l:List E4)(n d:Nat):List Int:=((List.range d).map fun k=>mW l k n).flatten
theorem xR(l:List E4)(n d:Nat):nB l n (d+1)=nB l n d++mW l d n:=by simp [nB,List.range_succ]
def Om(n:Nat)(l:List E4):List Int:=nB l n (2*l.length+1)
end Go.Am
end

noncomputable section
namespace Go.Am
open Go
theorem Iv{x y:Int}(hx:0<=x/\x<32)(hy:0<=y/\y<32)(k:Nat):(Mv x y).toNat.testBit k=(x.toNat.testBit k||y.toNat.testBit k):=by
 rw[(Dx hx hy).1,Int.toNat_natCast,Nat.testBit_or]
theorem Mj(m:Int)(k:Nat):(wL m).toNat.testBit k=decide (m.toNat=k):=by
 unfold wL
 rw[Int.toNat_natCast,Nat.testBit_two_pow]
theorem Hf{set:List Int}(hs: ∀z∈set,0<=z/\z<32)(es:List Int)(k:Nat):(eZ set es).toNat.testBit k=es.any fun j=>((set[j.toNat]?).getD 0).toNat.testBit k:=by
 unfold eZ
 have hz: ∀e:Int,0<=((set[e.toNat]?).getD 0)/\((set[e.toNat]?).getD 0)<32:=fun e=>by
  cases hh:set[e.toNat]? with
  |none=>simp
  |some z=>exact hs z (xAh hh)
 have: ∀(es:List Int) (s:Int),0<=s/\s<32->(es.foldl (fun s i=>Mv s ((set[i.toNat]?).getD 0)) s).toNat.testBit k=(s.toNat.testBit k||es.any fun j=>((set[j.toNat]?).getD 0).toNat.testBit k):=fun es=>by
  induction es with
  |nil=>intro s _;simp
  |cons e es ih=>
   intro s h
   rw[List.foldl_cons,ih _ (Dx h (hz e)).2,Iv h (hz e),List.any_cons,Bool.or_assoc]
 rw[this es 0 (by omega)]
 simp
theorem mI{l:List E4}(a0: ∀e∈l,Qz e)(v:Int): ∀i,i<=l.length->0<=jD l v i/\jD l v i<32
 |0,_=>by unfold jD;simp
 |i+1,h=>by
  have ih:=mI a0 v i (by omega)
  have he:l[i]?=some l[i]:=xAe (by omega)
  rw[vE v he]
  split
  ·exact(Dx ih (wM (a0 _ (List.getElem_mem _)).1 (a0 _ (List.getElem_mem _)).2)).2
  ·exact ih
theorem xV{l:List E4}(a0: ∀e∈l,Qz e)(v:Int)(k:Nat): ∀i,i<=l.length->((jD l v i).toNat.testBit k=true↔ ∃j e,j<i/\l[j]?=some e/\(e.f=v\/e.t=v)/\e.m.toNat=k)
 |0,_=>by unfold jD;simp
 |i+1,h=>by
  have ih:=xV a0 v k i (by omega)
  have he:l[i]?=some l[i]:=xAe (by omega)
  have hm:=a0 _ (List.getElem_mem (show i<l.length by omega))
  have hx:(∃j e,j<i+1/\l[j]?=some e/\(e.f=v\/e.t=v)/\e.m.toNat=k)↔(∃j e,j<i/\l[j]?=some e/\(e.f=v\/e.t=v)/\e.m.toNat=k)\/((l[i].f=v\/l[i].t=v)/\l[i].m.toNat=k):=by
   constructor
   ·rintro⟨j,e,h1,h2,h3⟩
    by_cases hj:j=i
    ·subst hj;rw[he] at h2;cases h2;exact .inr h3
    ·exact .inl ⟨j,e,by omega,h2,h3⟩
   ·rintro(⟨j,e,h1,h2,h3⟩|h3)
    ·exact⟨j,e,by omega,h2,h3⟩
    ·exact⟨i,_,by omega,he,h3⟩
  rw[hx,<-ih,vE v he]
  by_cases hv:l[i].f=v\/l[i].t=v
  ·rw[if_pos hv,Iv (mI a0 v i (by omega)) (wM hm.1 hm.2),Mj]
   simp [hv]
  ·rw[if_neg hv]
   simp [hv]
theorem sC{k:uT}{l:List E4}{v:Int}{i:Nat}{x:Int}:x∈lH k l v i↔ ∃j e,j<i/\l[j]?=some e/\eC k e=v/\x=((j:Nat):Int):=by
 unfold lH
 simp only [List.mem_filterMap,List.mem_range]
 constructor
 ·rintro⟨j,h1,h2⟩
  cases he:l[j]? with
  |none=>rw[he] at h2;cases h2
  |some e=>
   rw[he] at h2
   simp only at h2
   by_cases hh:eC k e=v
   ·rw[if_pos hh] at h2;exact⟨j,e,h1,he,hh,(Option.some.inj h2).symm⟩
   ·rw[if_neg hh] at h2;cases h2
 ·rintro⟨j,e,h1,h2,h3,rfl⟩
  exact⟨j,h1,by rw[h2];simp [h3]⟩
theorem Ua{n:Nat}{l:List E4}(h:fC ((n:Nat):Int) l=true){v:Int}(hv:0<=v/\v<(n:Int)):jZ (jA n l) v=jD l v l.length:=by
 obtain⟨_,_,h3,h4⟩:=fY h
 have a1: ∀e∈l,Qz e:=fun e he=>(h4 e he).2.2.2.2
 have ha:=Lp h
 have r1:=rV ha v
 have r2:=mI a1 v l.length (Nat.le_refl _)
 have e1:dR (jA n l).out v=lH .fr l v l.length:=qJ hv (mX h (by simp))
 have e2:dR (jA n l).inn v=lH .to l v l.length:=qJ hv (mX h (by simp))
 have u1:=oH ha.2.2.2 (dR (jA n l).out v)
 have u2:=oH ha.2.2.2 (dR (jA n l).inn v)
 have key:(jZ (jA n l) v).toNat=(jD l v l.length).toNat:=by
  apply Nat.eq_of_testBit_eq
  intro k
  rw[Bool.eq_iff_iff,xV a1 v k _ (Nat.le_refl _)]
  unfold jZ
  rw[Iv u1 u2,Hf ha.2.2.2,Hf ha.2.2.2,e1,e2]
  simp only [Bool.or_eq_true,List.any_eq_true]
  have a0: ∀(j:Nat) (e:E4),l[j]?=some e->(((jA n l).set[((j:Nat):Int).toNat]?).getD 0).toNat.testBit k=decide (e.m.toNat=k):=fun j e he=>by
   show(((l.map (eC .set))[((j:Nat):Int).toNat]?).getD 0).toNat.testBit k=_
   rw[Int.toNat_natCast,List.getElem?_map,he]
   exact Mj e.m k
  constructor
  ·rintro(⟨x,hx,hb⟩|⟨x,hx,hb⟩)
   ·obtain⟨j,e,q1,q2,q3,rfl⟩:=sC.1 hx
    rw[a0 j e q2] at hb
    exact⟨j,e,q1,q2,.inl q3,of_decide_eq_true hb⟩
   ·obtain⟨j,e,q1,q2,q3,rfl⟩:=sC.1 hx
    rw[a0 j e q2] at hb
    exact⟨j,e,q1,q2,.inr q3,of_decide_eq_true hb⟩
  ·rintro⟨j,e,q1,q2,q3|q3,q4⟩
   ·exact .inl ⟨_,sC.2 ⟨j,e,q1,q2,q3,rfl⟩,by rw[a0 j e q2];exact xAb q4⟩
   ·exact .inr ⟨_,sC.2 ⟨j,e,q1,q2,q3,rfl⟩,by rw[a0 j e q2];exact xAb q4⟩
 omega
theorem Xl{s:Int}(h:0<=s/\s<32):decide (aBb s>=(2:Int))=decide (((Iy s.toNat:Nat):Int)>=2):=by
 have key: ∀k:Fin 32,decide (aBb ((k.val:Nat):Int)>=(2:Int))=decide (((Iy k.val:Nat):Int)>=2):=by decide+kernel
 have:=key ⟨s.toNat,by omega⟩
 simp only at this
 rw[Int.toNat_of_nonneg h.1] at this
 exact this
theorem Wj{n:Nat}{l:List E4}(h:fC ((n:Nat):Int) l=true){v:Int}(hv:0<=v/\v<(n:Int)):jN (jA n l) v=Al l v:=by
 unfold jN Al
 rw[Ua h hv]
 obtain⟨_,_,_,h4⟩:=fY h
 exact(Xl (mI (fun e he=>(h4 e he).2.2.2.2) v l.length (Nat.le_refl _))).symm
theorem Zj{n:Nat}{l:List E4}(h:fC ((n:Nat):Int) l=true){v:Int}(hv:0<=v/\v<(n:Int)):dU (jA n l) v=qU l v:=by
 have e1:dR (jA n l).out v=lH .fr l v l.length:=qJ hv (mX h (by simp))
 have e2:dR (jA n l).inn v=lH .to l v l.length:=qJ hv (mX h (by simp))
 unfold dU qU
 rw[e1,e2]
theorem Gy(l:List E4)(v:Int):qU l v<=2*l.length:=by
 have h1:=Ec .fr l v l.length
 have h2:=Ec .to l v l.length
 unfold qU;omega
theorem Qc(f:Int->Nat)(vs:List Int)(d:Nat):bk (fun j=>f ((vs[j]?).getD 0)) (fun j=>(vs[j]?).getD 0) vs.length d=vs.filter fun x=>decide (f x=d):=by
 have: ∀i,i<=vs.length->bk (fun j=>f ((vs[j]?).getD 0)) (fun j=>(vs[j]?).getD 0) i d=(vs.take i).filter fun x=>decide (f x=d):=fun i=>by
  induction i with
  |zero=>intro _;rfl
  |succ i ih=>
   intro hi
   rw[uC,ih (by omega),List.take_succ_eq_append_getElem (by omega),List.filter_append,xAe (by omega)]
   simp only [Option.getD_some]
   by_cases hh:f vs[i]=d<;>simp [hh]
 rw[this _ (Nat.le_refl _),List.take_length]
theorem Cx{α β:Type}{f g:α->Option β}: ∀{l:List α},(∀x∈l,f x=g x)->l.filterMap f=l.filterMap g
 | [],_=>rfl
 |x::l,h=>by
  rw[List.filterMap_cons,List.filterMap_cons,h x (List.mem_cons_self ..),Cx fun y hy=>h y (List.mem_cons_of_mem _ hy)]
theorem Lq{n:Nat}{l:List E4}(h:fC ((n:Nat):Int) l=true):bW n l=Om n l:=by
 obtain⟨_,_,h3,_⟩:=fY h
 have hd: ∀d,bk (iD (jA n l) (dN (jA n l) n)) (fun j=>((dN (jA n l) n)[j]?).getD 0) (dN (jA n l) n).length d=mW l d n:=fun d=>by
  rw[show iD (jA n l) (dN (jA n l) n)=fun j=>dU (jA n l) (((dN (jA n l) n)[j]?).getD 0) from rfl,Qc]
  unfold dN mW
  rw[List.filter_filterMap]
  refine Cx fun v hv=> ?_
  have a1:0<=((v:Nat):Int)/\((v:Nat):Int)<(n:Int):=by have:=List.mem_range.1 hv;omega
  rw[Wj h a1]
  cases hl:Al l ((v:Nat):Int) with
  |true=>simp
  |false=>
   have:=Zj h a1
   by_cases hdd:qU l ((v:Nat):Int)=d
   ·simp [this,hdd,Option.filter]
   ·simp [this,hdd,Option.filter]
 have a0: ∀d,2*l.length<d->mW l d n= []:=fun d a3=>by
  unfold mW
  rw[List.filterMap_eq_nil_iff]
  intro v _
  have:=Gy l ((v:Nat):Int)
  rw[if_neg (by omega)]
 have a2: ∀k,nB l n (2*l.length+1+k)=nB l n (2*l.length+1):=fun k=>by
  induction k with
  |zero=>rfl
  |succ k ih=>rw[show 2*l.length+1+(k+1)=(2*l.length+1+k)+1 by omega,xR,ih,a0 _ (by omega),List.append_nil]
 unfold bW sE Om
 rw[<-a2 (801-(2*l.length+1)),show 2*l.length+1+(801-(2*l.length+1))=801 by omega]
 exact congrArg List.flatten (List.map_congr_left fun d _=>hd d)
end Go.Am
end
