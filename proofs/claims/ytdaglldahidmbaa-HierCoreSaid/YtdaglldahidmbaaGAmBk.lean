/-
  Package hier: each of its laws for every argument; no conditions. The last text states which.
-/
import Derived.Test.YtdaglldahidmbaaGAmPw
set_option linter.unusedVariables false
set_option linter.unusedSimpArgs false
noncomputable section
namespace Go.Am
open Go
def dZ(c:Nat->Nat):Nat->Nat
 |0=>0
 |v+1=>dZ c v+c v
theorem Ha(c:Nat->Nat): ∀{u v:Nat},u<=v->dZ c u<=dZ c v
 |u,0,h=>by have:u=0:=by omega
            subst this;exact Nat.le_refl _
 |u,v+1,h=>by
  by_cases e:u=v+1
  ·subst e;exact Nat.le_refl _
  ·have:=Ha c (show u<=v by omega)
   show dZ c u<=dZ c v+c v
   omega
theorem oO(c:Nat->Nat){u v:Nat}(h:u<v):dZ c u+c u<=dZ c v:=Ha c (show u+1<=v from h)
theorem Dy{c d:Nat->Nat}: ∀{n:Nat},(∀v,v<n->c v=d v)->dZ c n=dZ d n
 |0,_=>rfl
 |n+1,h=>by show dZ c n+c n=dZ d n+d n;rw[Dy (n:=n) fun v hv=>h v (by omega),h n (by omega)]
def bk{α:Type}(key:Nat->Nat)(item:Nat->α)(i v:Nat):List α:=(List.range i).filterMap fun j=>if key j=v then some (item j) else none
theorem uI{α:Type}(key:Nat->Nat)(item:Nat->α)(i v:Nat):bk key item (i+1) v=bk key item i v++(if key i=v then[item i] else[]):=by
 unfold bk
 rw[List.range_succ,List.filterMap_append]
 by_cases h:key i=v<;>simp [h]
theorem Np{α β:Type}(key:Nat->Nat)(item:Nat->α)(f:α->β)(i v:Nat):(bk key item i v).map f=bk key (fun j=>f (item j)) i v:=by
 induction i with
 |zero=>rfl
 |succ i ih=>rw[uI,uI,List.map_append,ih];by_cases h:key i=v<;>simp [h]
def dV(key:Nat->Nat)(i v:Nat):Nat:=(bk key (fun _=>()) i v).length
theorem vY{α:Type}(key:Nat->Nat)(item:Nat->α)(i v:Nat):(bk key item i v).length=dV key i v:=by
 unfold dV
 rw[<-Np key item (fun _=>())]
 simp
theorem jZ(key:Nat->Nat)(i v:Nat):dV key (i+1) v=dV key i v+(if key i=v then 1 else 0):=by
 unfold dV
 rw[uI,List.length_append]
 by_cases h:key i=v<;>simp [h]
theorem Km(key:Nat->Nat)(v:Nat): ∀{i j:Nat},i<=j->dV key i v<=dV key j v
 |i,0,h=>by have:i=0:=by omega
            subst this;exact Nat.le_refl _
 |i,j+1,h=>by
  by_cases e:i=j+1
  ·subst e;exact Nat.le_refl _
  ·have:=Km key v (show i<=j by omega)
   rw[jZ];omega
theorem Ss(key:Nat->Nat){i j:Nat}(h:i<j):dV key i (key i)<dV key j (key i):=by
 have h1:=Km key (key i) (show i+1<=j from h)
 rw[jZ,if_pos rfl] at h1
 omega
theorem tZ(key:Nat->Nat)(n:Nat): ∀(i:Nat),(∀j,j<i->key j<n)->dZ (dV key i) n=i
 |0,_=>by
  have: ∀n,dZ (dV key 0) n=0:=fun n=>by
   induction n with
   |zero=>rfl
   |succ n ih=>show dZ (dV key 0) n+dV key 0 n=0;rw[ih];rfl
  exact this n
 |i+1,h=>by
  have ih:=tZ key n i fun j hj=>h j (by omega)
  have hk:=h i (by omega)
  have: ∀m,dZ (dV key (i+1)) m=dZ (dV key i) m+(if key i<m then 1 else 0):=fun m=>by
   induction m with
   |zero=>rfl
   |succ m ihm=>
    show dZ (dV key (i+1)) m+dV key (i+1) m=dZ (dV key i) m+dV key i m+_
    rw[ihm,jZ]
    by_cases h1:key i<m
    ·rw[if_pos h1,if_neg (by omega),if_pos (by omega)];omega
    ·by_cases h2:key i=m
     ·rw[if_neg h1,if_pos h2,if_pos (by omega)];omega
     ·rw[if_neg h1,if_neg h2,if_neg (by omega)];omega
  rw[this,ih,if_pos hk]
structure Bk(c:Nat->Nat)(n:Nat)(key:Nat->Nat)(item:Nat->Value)(i:Nat)(mem:List Value):Prop where
 len:mem.length=dZ c n
 le: ∀v,v<n->dV key i v<=c v
 at_: ∀v k,v<n->k<dV key i v->mem[dZ c v+k]?=(bk key item i v)[k]?
theorem Bk.zero{c:Nat->Nat}{n:Nat}{key:Nat->Nat}{item:Nat->Value}{mem:List Value}(h:mem.length=dZ c n):Bk c n key item 0 mem:=
 ⟨h,fun v _=>Nat.zero_le _,fun v k _ hk=>absurd hk (Nat.not_lt_zero _)⟩
theorem Bk.room{c:Nat->Nat}{n:Nat}{key:Nat->Nat}{item:Nat->Value}{i:Nat}{mem:List Value}(h:Bk c n key item i mem){v:Nat}(hv:v<n)(hc:dV key i v<c v):dZ c v+dV key i v<mem.length:=by
 have:=oO c hv
 rw[h.len];omega
theorem Bk.step{c:Nat->Nat}{n:Nat}{key:Nat->Nat}{a0:Nat->Value}{i:Nat}{mem:List Value}(h:Bk c n key a0 i mem)(hv:key i<n)(hc:dV key i (key i)<c (key i)):
  Bk c n key a0 (i+1) (splice mem (dZ c (key i)+dV key i (key i)) [a0 i]):=by
 have a2:=h.room hv hc
 rw[gP _ _ _ a2]
 refine⟨by rw[List.length_set];exact h.len,fun v hvn=> ?_,fun v k hvn hk=> ?_⟩
 ·rw[jZ]
  by_cases e:key i=v
  ·subst e;rw[if_pos rfl];omega
  ·rw[if_neg e];exact h.le v hvn
 ·rw[uI]
  rw[jZ] at hk
  by_cases e:key i=v
  ·subst e
   rw[if_pos rfl] at hk⊢
   by_cases a1:k<dV key i (key i)
   ·rw[List.getElem?_set_ne (by omega),h.at_ _ _ hvn a1,List.getElem?_append_left (by rw[vY];exact a1)]
   ·have:k=dV key i (key i):=by omega
    subst this
    rw[List.getElem?_set_self a2,List.getElem?_append_right (by rw[vY];exact Nat.le_refl _),vY,Nat.sub_self]
    rfl
  ·rw[if_neg e] at hk⊢
   rw[List.append_nil]
   have hle:=h.le v hvn
   have a3:dZ c (key i)+dV key i (key i)≠dZ c v+k:=by
    rcases Nat.lt_or_gt_of_ne e with h1|h1
    ·have:=oO c h1;omega
    ·have:=oO c h1;omega
   rw[List.getElem?_set_ne a3]
   exact h.at_ v k hvn (by omega)
theorem Bk.row{c:Nat->Nat}{n:Nat}{key:Nat->Nat}{a0:Nat->Value}{i:Nat}{mem:List Value}(h:Bk c n key a0 i mem){v:Nat}(hv:v<n):(mem.drop (dZ c v)).take (dV key i v)=bk key a0 i v:=by
 apply List.ext_getElem?
 intro k
 by_cases hk:k<dV key i v
 ·rw[List.getElem?_take_of_lt hk,List.getElem?_drop,h.at_ v k hv hk]
 ·rw[List.getElem?_eq_none (by simp;omega),List.getElem?_eq_none (by rw[vY];omega)]
theorem Bk.whole{c:Nat->Nat}{n:Nat}{key:Nat->Nat}{a0:Nat->Value}{i:Nat}{mem:List Value}(h:Bk c n key a0 i mem)(hf: ∀v,v<n->dV key i v=c v):mem=((List.range n).map (bk key a0 i)).flatten:=by
 have: ∀m,m<=n->mem.take (dZ c m)=((List.range m).map (bk key a0 i)).flatten:=fun m=>by
  induction m with
  |zero=>intro _;rfl
  |succ m ih=>
   intro hm
   have h1:=h.row (v:=m) (by omega)
   rw[hf m (by omega)] at h1
   show mem.take (dZ c m+c m)=_
   rw[List.take_add,ih (by omega),h1,List.range_succ]
   simp
 rw[<-this n (Nat.le_refl _),<-h.len,List.take_length]
def Ai(m:Nat)(c ln:Nat->Nat)(v:Nat):Value:=aC m (dZ c v) (ln v) (c v+1)
def dR(m:Nat)(c ln:Nat->Nat)(n:Nat):List Value:=(List.range n).map (Ai m c ln)
theorem fZ(m:Nat)(c ln:Nat->Nat)(n:Nat):(dR m c ln n).length=n:=by simp [dR]
theorem iD(m:Nat)(c ln:Nat->Nat){n v:Nat}(h:v<n):(dR m c ln n)[v]?=some (Ai m c ln v):=by simp [dR,h]
theorem vK(m:Nat)(c:Nat->Nat)(key:Nat->Nat)(i n:Nat)(h:key i<n):splice (dR m c (dV key i) n) (key i) [aC m (dZ c (key i)) (dV key i (key i)+1) (c (key i)+1)]=dR m c (dV key (i+1)) n:=by
 rw[gP _ _ _ (by rw[fZ];exact h)]
 apply List.ext_getElem?
 intro v
 by_cases e:key i=v
 ·subst e
  rw[List.getElem?_set_self (by rw[fZ];exact h),iD _ _ _ h]
  unfold Ai
  rw[jZ,if_pos rfl]
 ·rw[List.getElem?_set_ne e]
  by_cases hv:v<n
  ·rw[iD _ _ _ hv,iD _ _ _ hv]
   unfold Ai
   rw[jZ,if_neg e];rfl
  ·rw[List.getElem?_eq_none (by rw[fZ];omega),List.getElem?_eq_none (by rw[fZ];omega)]
def bD(rs:List (List Int))(v:Value)(M:aA):Prop:= ∃E c blk,v=aC E 0 rs.length c/\M.get E=some blk/\blk.esz=1/\blk.cs.length=rs.length/\ ∀(u:Nat) (r:List Int),rs[u]?=some r-> ∃x,blk.cs[u]?=some x/\aN r x M
instance:AP bD:=⟨fun{x y _ _} ⟨E,c,blk,h1,h2,_,_,h5⟩ ⟨E',c',blk',k1,k2,_,_,k5⟩=>by
 rw[h1] at k1
 simp only [Value.slice.injEq,Option.some.injEq,Addr.mk.injEq,and_true] at k1
 obtain⟨rfl,hl,_⟩:=k1
 rw[h2] at k2;cases k2
 apply List.ext_getElem?
 intro u
 by_cases hu:u<x.length
 ·obtain⟨a,a1,a2⟩:=h5 u x[u] (List.getElem?_eq_getElem hu)
  obtain⟨b,b1,b2⟩:=k5 u y[u] (List.getElem?_eq_getElem (by omega))
  rw[a1] at b1;cases b1
  rw[List.getElem?_eq_getElem hu,List.getElem?_eq_getElem (by omega),AP.uniq (R:=aN) a2 b2]
 ·rw[List.getElem?_eq_none (by omega),List.getElem?_eq_none (by omega)],
 fun hE ⟨E,c,blk,h1,h2,h3,h4,h5⟩=>⟨E,c,blk,h1,hE _ _ h2,h3,h4,fun u r hr=>let ⟨x,a,b⟩:=h5 u r hr;⟨x,a,AP.ext (R:=aN) hE b⟩⟩⟩
theorem Uz{M:aA}{E m n k:Nat}{c:Nat->Nat}{key:Nat->Nat}{a0:Nat->Int}{mem:List Value}{tE tm wE wm:Nat}{qE qm:Bool}(hE:M.get E=some ⟨dR m c (dV key k) n,tE,1,wE,qE⟩)(hm:M.get m=some ⟨mem,tm,1,wm,qm⟩)(h:Bk c n key (fun j=>i64 (a0 j)) k mem)(hk:k<=9223372036854775807)(cp:Nat):
  bD ((List.range n).map (bk key a0 k)) (aC E 0 n cp) M:=by
 refine⟨E,cp,_,by simp,hE,rfl,by rw[fZ];simp,fun u r hr=> ?_⟩
 have hu:u<n:=by
  have:=(List.getElem?_eq_some_iff.1 hr).1
  simpa using this
 simp [hu] at hr
 subst hr
 refine⟨_,iD _ _ _ hu,?_⟩
 unfold Ai
 have hb:(bk key a0 k u).map i64=bk key (fun j=>i64 (a0 j)) k u:=Np _ _ _ _ _
 have h1:=h.row hu
 have a1:(bk key a0 k u).length=dV key k u:=vY _ _ _ _
 have hle:=h.le u hu
 have hnx:=oO c hu
 rw[<-a1]
 refine aI.of_blk (blk:=⟨mem,tm,1,wm,qm⟩) (pre:=mem.take (dZ c u)) (post:=mem.drop (dZ c u+dV key k u)) hm ?_ ?_ (fun _ _=>rfl) rfl ?_
 ·show mem=_
  rw[Ak,hb,<-h1,List.append_assoc,<-List.drop_drop,List.take_append_drop,List.take_append_drop]
 ·rw[List.length_take,h.len]
  omega
 ·rw[a1]
  have: ∀i,dV key i u<=i:=fun i=>by
   induction i with
   |zero=>exact Nat.le_refl _
   |succ i ih=>rw[jZ];split<;>omega
  exact Nat.le_trans (this k) hk
def eQ(ends:List Int)(j:Nat):Nat:=((ends[j]?).getD 0).toNat
theorem Bt{ends:List Int}{j:Nat}(h:j<ends.length):eQ ends j=(ends[j]).toNat:=by unfold eQ;rw[List.getElem?_eq_getElem h];rfl
theorem Bu{ends:List Int}{n:Nat}(hb: ∀x∈ends,0<=x/\x<(n:Int)){j:Nat}(h:j<ends.length):eQ ends j<n:=by
 rw[Bt h]
 have:=hb _ (List.getElem_mem h)
 omega
def iA(key:Nat->Nat)(i n:Nat):List Value:=(List.range n).map fun v=>i64 ((dV key i v:Nat):Int)
theorem iZ(key:Nat->Nat)(i n:Nat):(iA key i n).length=n:=by simp [iA]
theorem iY(key:Nat->Nat)(i:Nat){n v:Nat}(h:v<n):(iA key i n)[v]?=some (i64 ((dV key i v:Nat):Int)):=by simp [iA,h]
theorem vC(key:Nat->Nat)(n:Nat):iA key 0 n=List.replicate n (i64 0):=by
 apply List.ext_getElem?
 intro v
 by_cases hv:v<n
 ·rw[iY _ _ hv,List.getElem?_replicate,if_pos hv];rfl
 ·rw[List.getElem?_eq_none (by rw[iZ];omega),List.getElem?_eq_none (by simp;omega)]
theorem vB(key:Nat->Nat){i n:Nat}(h:key i<n):splice (iA key i n) (key i) [i64 ((dV key i (key i)+1:Nat):Int)]=iA key (i+1) n:=by
 rw[gP _ _ _ (by rw[iZ];exact h)]
 apply List.ext_getElem?
 intro v
 by_cases e:key i=v
 ·subst e
  rw[List.getElem?_set_self (by rw[iZ];exact h),iY _ _ h,jZ,if_pos rfl]
 ·rw[List.getElem?_set_ne e]
  by_cases hv:v<n
  ·rw[iY _ _ hv,iY _ _ hv,jZ,if_neg e];rfl
  ·rw[List.getElem?_eq_none (by rw[iZ];omega),List.getElem?_eq_none (by rw[iZ];omega)]
theorem Cw(key:Nat->Nat)(i v:Nat):dV key i v<=i:=by
 induction i with
 |zero=>exact Nat.le_refl _
 |succ i ih=>rw[jZ];split<;>omega
theorem Vi{i:Nat}(h:i<1099511627776):IntKind.wrap .i64 ((i:Nat):Int)=((i:Nat):Int):=Go.Am.fR (by omega) (by omega)
theorem yO{i j:Nat}(h:i+j<1099511627776):IntKind.wrap .i64 (((i:Nat):Int)+((j:Nat):Int))=((i+j:Nat):Int):=by
 rw[<-Vi h];congr 1
def mJ(n:Nat)(ends:List Int):List (List Int):=(List.range n).map (bk (eQ ends) (fun j=>((j:Nat):Int)) ends.length)
theorem Ep(n:Nat)(ends:List Int):(mJ n ends).length=n:=by simp [mJ]
def Ui(x:Nat×List Int)(nx:Nat)(v:Value)(M:aA):Prop:= ∃E D,v=aC E 0 x.1 (x.1+1)/\nx<=E/\nx<=D/\D≠E/\M.get E=some ⟨dR D (dV (eQ x.2) x.2.length) (fun _=>0) x.1,22,1,0,true⟩/\M.get D=some ⟨List.replicate x.2.length (i64 0),3,1,0,true⟩
instance:AQ Ui:=⟨fun hE ⟨E,D,h1,h2,h3,h4,h5,h6⟩=>⟨E,D,h1,h2,h3,h4,hE _ _ h5,hE _ _ h6⟩⟩
structure eV where
 out:List (List Int)
 inn:List (List Int)
 to:List Int
 set:List Int
def jF(n:Nat)(l:List E4):eV:=⟨mJ n (l.map (eE .fr)),mJ n (l.map (eE .to)),l.map (eE .to),l.map (eE .set)⟩
def eT(ty:TypeId)(a:eV)(v:Value)(M:aA):Prop:= ∃b o i t s,v=pt b 0/\M.get b=some ⟨[o,i,t,s],ty,4,0,true⟩/\bD a.out o M/\bD a.inn i M/\aN a.to t M/\aN a.set s M
instance(ty:TypeId):AP (eT ty):=⟨fun{x y _ _} ⟨b,o,i,t,s,h1,h2,h3,h4,h5,h6⟩ ⟨b',o',i',t',s',k1,k2,k3,k4,k5,k6⟩=>by
 rw[h1] at k1
 simp only [Value.pointer.injEq,Option.some.injEq,Addr.mk.injEq,and_true] at k1
 subst k1
 rw[h2] at k2
 simp only [Option.some.injEq,aS.mk.injEq,List.cons.injEq,and_true,true_and] at k2
 obtain⟨rfl,rfl,rfl,rfl⟩:=k2
 have e1:=AP.uniq (R:=bD) h3 k3;have e2:=AP.uniq (R:=bD) h4 k4;have e3:=AP.uniq (R:=aN) h5 k5;have e4:=AP.uniq (R:=aN) h6 k6
 cases x;cases y;simp_all,
 fun hE ⟨b,o,i,t,s,h1,h2,h3,h4,h5,h6⟩=>⟨b,o,i,t,s,h1,hE _ _ h2,AP.ext (R:=bD) hE h3,AP.ext (R:=bD) hE h4,AP.ext (R:=aN) hE h5,AP.ext (R:=aN) hE h6⟩⟩
theorem Gg{x n:Int}:eK x n=true↔0<=x/\x<n:=by simp [eK]
theorem fM{n:Int}{l:List E4}(h:eP n l=true):1<=n/\n<=60/\l.length<=400/\ ∀e∈l,0<=e.f/\e.f<n/\0<=e.t/\e.t<n/\Ps e:=by
 simp only [eP,gJ,Bool.and_eq_true,Bool.not_eq_true',Bool.or_eq_false_iff,Bool.not_eq_false',decide_eq_true_eq,decide_eq_false_iff_not,List.all_eq_true] at h
 obtain⟨⟨⟨h1,h2⟩,h3⟩,h4⟩:=h
 refine⟨h1,h2,by omega,fun e he=> ?_⟩
 have:=h4 e he
 simp only [iI,Bool.and_eq_true,Gg,decide_eq_true_eq] at this
 obtain⟨⟨⟨⟨h5,h6⟩,h7⟩,h8⟩,h9⟩:=this
 exact⟨h5.1,h5.2,h6.1,h6.2,h7⟩
theorem mZ{n:Int}{l:List E4}(h:eP n l=true){k:uZ}(hk:k≠ .set): ∀x∈l.map (eE k),0<=x/\x<n:=fun x hx=>by
 obtain⟨e,he,rfl⟩:=List.mem_map.1 hx
 obtain⟨_,_,_,hh⟩:=fM h
 have:=hh e he
 cases k
 ·exact⟨this.2.2.1,this.2.2.2.1⟩
 ·exact⟨this.1,this.2.1⟩
 ·exact absurd rfl hk
def dS(rs:List (List Int))(v:Int):List Int:=if 0<=v then(rs[v.toNat]?).getD [] else[]
theorem tU{P:Program}{rs:List (List Int)}{E n c u:Nat}{r:List Int}{M:aA}{ty:TypeId}(h:bD rs (aC E 0 n c) M)(hu:rs[u]?=some r)(hd:(P.underlying ty).map dY=some false): ∃a c',bG P ty ⟨E,0+u*1,none⟩ M=some (.slice a r.length c')/\aN r (.slice a r.length c') M:=by
 obtain⟨E',c0,blk,h1,h2,_,_,h5⟩:=h
 simp only [Value.slice.injEq,Option.some.injEq,Addr.mk.injEq,and_true] at h1
 obtain⟨rfl,_,_⟩:=h1
 obtain⟨x,hx,hp⟩:=h5 u r hu
 obtain⟨a,c',rfl⟩:=aI.form hp
 exact⟨a,c',bI (a:=⟨E,0+u*1,none⟩) hd h2 (by simpa using hx),hp⟩
theorem eY{rs:List (List Int)}{v:Value}{M:aA}(h:bD rs v M): ∃E c,v=aC E 0 rs.length c:=by
 obtain⟨E,c,blk,h1,_⟩:=h
 exact⟨E,c,h1⟩
def rH(a:eV):Prop:=(∀r∈a.out,r.length<=400/\ ∀j∈r,0<=j/\j<(a.set.length:Int))/\(∀r∈a.inn,r.length<=400/\ ∀j∈r,0<=j/\j<(a.set.length:Int))/\a.set.length<=400/\ ∀z∈a.set,0<=z/\z<32
theorem Yx{α:Type}{key:Nat->Nat}{a0:Nat->α}{i v:Nat}{x:α}:x∈bk key a0 i v↔ ∃j,j<i/\key j=v/\a0 j=x:=by
 unfold bk
 simp only [List.mem_filterMap,List.mem_range]
 constructor
 ·rintro⟨j,h1,h2⟩
  by_cases h:key j=v
  ·rw[if_pos h] at h2;exact⟨j,h1,h,Option.some.inj h2⟩
  ·rw[if_neg h] at h2;cases h2
 ·rintro⟨j,h1,h2,rfl⟩
  exact⟨j,h1,by rw[if_pos h2]⟩
theorem He{n:Nat}{ends:List Int}(h:ends.length<=400): ∀r∈mJ n ends,r.length<=400/\ ∀j∈r,0<=j/\j<(ends.length:Int):=fun r hr=>by
 obtain⟨v,_,rfl⟩:=List.mem_map.1 hr
 refine⟨by rw[vY];exact Nat.le_trans (Cw _ _ _) h,fun j hj=> ?_⟩
 obtain⟨k,h1,_,rfl⟩:=Yx.1 hj
 omega
theorem wU{m:Int}(h0:0<=m)(h5:m<5):0<=wT m/\wT m<32:=by
 have:m=0\/m=1\/m=2\/m=3\/m=4:=by omega
 rcases this with rfl|rfl|rfl|rfl|rfl<;>decide
theorem Lt{n:Nat}{l:List E4}(h:eP ((n:Nat):Int) l=true):rH (jF n l):=by
 obtain⟨_,_,h3,h4⟩:=fM h
 have e1:((l.map (eE .set)).length:Int)=((l.map (eE .fr)).length:Int):=by simp
 have e2:((l.map (eE .set)).length:Int)=((l.map (eE .to)).length:Int):=by simp
 refine⟨?_,?_,by simpa [jF] using h3,fun z hz=> ?_⟩
 ·show∀r∈mJ n _,r.length<=400/\ ∀j∈r,0<=j/\j<((l.map (eE .set)).length:Int)
  rw[e1];exact He (by simpa using h3)
 ·show∀r∈mJ n _,r.length<=400/\ ∀j∈r,0<=j/\j<((l.map (eE .set)).length:Int)
  rw[e2];exact He (by simpa using h3)
 ·obtain⟨e,he,rfl⟩:=List.mem_map.1 hz
  exact wU (h4 e he).2.2.2.2.1 (h4 e he).2.2.2.2.2
theorem qN{rs:List (List Int)}{p:List Int->Prop}(h: ∀r∈rs,p r)(h0:p [])(v:Int):p (dS rs v):=by
 unfold dS
 split
 ·cases hh:rs[v.toNat]? with
  |none=>exact h0
  |some r=>exact h r (List.mem_of_getElem? hh)
 ·exact h0
def eZ(set es:List Int):Int:=es.foldl (fun s i=>Na s ((set[i.toNat]?).getD 0)) 0
def kE(a:eV)(v:Int):Int:=Na (eZ a.set (dS a.out v)) (eZ a.set (dS a.inn v))
def mX(ty:TypeId)(x:Nat×eV)(v:Value)(M:aA):Prop:= ∃p,v= .agg ⟨[i64 ((x.1:Nat):Int),p]⟩/\eT ty x.2 p M
instance(ty:TypeId):AP (mX ty):=⟨fun{x y _ _} ⟨p,h1,h2⟩ ⟨q,k1,k2⟩=>by
 rw[h1] at k1
 simp only [Value.agg.injEq,Array.mk.injEq,List.cons.injEq,and_true] at k1
 obtain⟨e1,rfl⟩:=k1
 have e2:=AP.uniq (R:=eT ty) h2 k2
 obtain⟨a,b⟩:=x;obtain⟨c,d⟩:=y
 have h3:a=c:=by have:((a:Nat):Int)=((c:Nat):Int):=by simpa [i64] using e1
                 omega
 have h4:b=d:=e2
 rw[h3,h4],fun hE ⟨p,h1,h2⟩=>⟨p,h1,AP.ext (R:=eT ty) hE h2⟩⟩
def pU(k:Nat)(v:Value)(_:aA):Prop:=v= .int .u64 ((k:Nat):Int)
instance:AP pU:=⟨fun h k=>by unfold pU at h k;rw[h] at k;simp at k;omega,fun _ h=>h⟩
def Iz(n:Nat):Nat:=n%2+n/2%2+n/4%2+n/8%2+n/16%2
theorem Eb{x y:Int}(hx:0<=x/\x<32)(hy:0<=y/\y<32):Na x y=((x.toNat|||y.toNat:Nat):Int)/\0<=Na x y/\Na x y<32:=by
 have h:=Wx (x:=x.toNat) (y:=y.toNat) (by omega) (by omega)
 rw[Int.toNat_of_nonneg hx.1,Int.toNat_of_nonneg hy.1] at h
 have h2:x.toNat|||y.toNat<2^5:=Nat.or_lt_two_pow (by omega) (by omega)
 exact⟨h,by omega,by omega⟩
theorem oK{set:List Int}(hs: ∀z∈set,0<=z/\z<32)(es:List Int):0<=eZ set es/\eZ set es<32:=by
 unfold eZ
 have: ∀(es:List Int) (s:Int),0<=s/\s<32->0<=es.foldl (fun s i=>Na s ((set[i.toNat]?).getD 0)) s/\es.foldl (fun s i=>Na s ((set[i.toNat]?).getD 0)) s<32:=fun es=>by
  induction es with
  |nil=>intro s h;exact h
  |cons e es ih=>
   intro s h
   have h2:0<=((set[e.toNat]?).getD 0)/\((set[e.toNat]?).getD 0)<32:=by
    cases hh:set[e.toNat]? with
    |none=>simp
    |some z=>exact hs z (List.mem_of_getElem? hh)
   exact ih _ (Eb h h2).2
 exact this es 0 (by omega)
theorem sC{a:eV}(h:rH a)(v:Int):0<=kE a v/\kE a v<32:=(Eb (oK h.2.2.2 _) (oK h.2.2.2 _)).2
theorem wrapU{x:Int}(h:0<=x/\x<32):IntKind.wrap .u64 x=((x.toNat:Nat):Int):=by
 rw[Int.toNat_of_nonneg h.1]
 show x%(2^64)=x
 exact Int.emod_eq_of_lt h.1 (by omega)
def jS(a:eV)(v:Int):Bool:=decide (((Iz (kE a v).toNat:Nat):Int)>=2)
def dX(a:eV)(v:Int):Nat:=(dS a.out v).length+(dS a.inn v).length
theorem tQ{a:eV}(h:rH a)(v:Int):dX a v<=800:=by
 have h1:=qN (p:=fun r=>r.length<=400) (fun r hr=>(h.1 r hr).1) (by decide) v
 have h2:=qN (p:=fun r=>r.length<=400) (fun r hr=>(h.2.1 r hr).1) (by decide) v
 unfold dX;omega
def Ec(f:FuncId)(ty:TypeId)(x:Nat×eV)(v:Value)(M:aA):Prop:= ∃s,v= .func (.func f) ⟨[s]⟩ ⟨[]⟩/\mX ty x s M
instance(f:FuncId)(ty:TypeId):AP (Ec f ty):=⟨fun{x y _ _} ⟨p,h1,h2⟩ ⟨q,k1,k2⟩=>by
 rw[h1] at k1
 simp only [Value.func.injEq,true_and,Array.mk.injEq,List.cons.injEq,and_true] at k1
 subst k1
 exact AP.uniq (R:=mX ty) h2 k2,fun hE ⟨p,h1,h2⟩=>⟨p,h1,AP.ext (R:=mX ty) hE h2⟩⟩
def Jl(M0 M:aA)(S:Value)(l:List Int):Prop:=(S=fL/\l= [])\/ ∃b,S=aC b 0 l.length l.length/\l≠ []/\M0.next<=b/\M.get b=some ⟨l.map i64,3,1,0,true⟩
theorem Jl.keep{M0 M M':aA}{S:Value}{l:List Int}(h:Jl M0 M S l)(hk: ∀id b,M0.next<=id->M.get id=some b->M'.get id=some b):Jl M0 M' S l:=by
 rcases h with h|⟨b,h1,h2,h3,h4⟩
 ·exact .inl h
 ·exact .inr ⟨b,h1,h2,h3,hk _ _ h3 h4⟩
theorem Jl.new{M0 M:aA}{S:Value}{l:List Int}{n:Nat}(h:Jl M0 M S l)(hl:l.length<=9223372036854775807)(hn:n<=M0.next):aN l S (hid n M):=by
 rcases h with⟨rfl,rfl⟩|⟨b,rfl,_,h3,h4⟩
 ·exact aI.nil none
 ·exact aI.of_blk' (jO (by omega) h4) rfl (Ak l).symm (fun _ _=>rfl) hl
def dP(a:eV)(i:Nat):List Int:=(List.range i).filterMap fun v=>if jS a ((v:Nat):Int) then none else some ((v:Nat):Int)
theorem vG(a:eV)(i:Nat):dP a (i+1)=dP a i++(if jS a ((i:Nat):Int) then[] else[((i:Nat):Int)]):=by
 unfold dP
 rw[List.range_succ,List.filterMap_append]
 cases h:jS a ((i:Nat):Int)<;>simp [h]
theorem sG(a:eV)(i:Nat):(dP a i).length<=i:=by
 have:=List.length_filterMap_le (fun v:Nat=>if jS a ((v:Nat):Int) then none else some ((v:Nat):Int)) (List.range i)
 simpa [dP] using this
def vH(sz:List Nat)(v:Value)(M:aA):Prop:=aN (sz.map fun k=>((k:Nat):Int)) v M
theorem Ao: ∀{a b:List Nat},a.map (fun k=>((k:Nat):Int))=b.map (fun k=>((k:Nat):Int))->a=b
 | [],[],_=>rfl
 | [],_::_,h=>by simp at h
 |_::_,[],h=>by simp at h
 |x::a,y::b,h=>by
  simp only [List.map_cons,List.cons.injEq] at h
  have:x=y:=by omega
  rw[this,Ao h.2]
instance:AP vH:=⟨fun h k=>Ao (AP.uniq (R:=aN) h k),fun hE h=>AP.ext (R:=aN) hE h⟩
def Xb(x:Nat×Nat)(v:Value)(M:aA):Prop:=v=aC x.1 0 x.2 (x.2+1)/\ ∃cd,M.get x.1=some ⟨cd,3,1,0,true⟩
instance:AP Xb:=⟨fun{x y _ _} ⟨h,_⟩ ⟨k,_⟩=>by
 rw[h] at k
 simp only [Value.slice.injEq,Option.some.injEq,Addr.mk.injEq,and_true] at k
 obtain⟨a,b⟩:=x;obtain⟨c,d⟩:=y
 have h1:a=c:=k.1
 have h2:b=d:=k.2.1
 rw[h1,h2],fun hE ⟨h,cd,k⟩=>⟨h,cd,hE _ _ k⟩⟩
def oY(sz:List Nat)(d:Nat):Nat:=(sz[d]?).getD 0
def iL(a:eV)(vs:List Int)(j:Nat):Nat:=dX a ((vs[j]?).getD 0)
def gZ(a:eV)(vs:List Int):List Nat:=(List.range 801).map (dV (iL a vs) vs.length)
theorem zC{a:eV}{vs:List Int}{d:Nat}(h:d<801):oY (gZ a vs) d=dV (iL a vs) vs.length d:=by
 unfold oY gZ
 rw[List.getElem?_map,List.getElem?_range h];rfl
def Ow(x:(Nat×Nat)×List Nat)(nx:Nat)(v:Value)(M:aA):Prop:= ∃E,v=aC E 0 x.2.length (x.2.length+1)/\nx<=E/\M.get E=some ⟨dR x.1.1 (oY x.2) (fun _=>0) x.2.length,22,1,0,true⟩
instance:AQ Ow:=⟨fun hE ⟨E,h1,h2,h3⟩=>⟨E,h1,h2,hE _ _ h3⟩⟩
def sK(a:eV)(vs:List Int):List Int:=((List.range 801).map (bk (iL a vs) (fun j=>(vs[j]?).getD 0) vs.length)).flatten
theorem sM(a:eV)(vs:List Int):(gZ a vs).length=801:=by simp [gZ]
theorem Hh{a:eV}(h:rH a)(vs:List Int):dZ (oY (gZ a vs)) 801=vs.length:=by
 rw[Dy (d:=dV (iL a vs) vs.length) fun v hv=>zC hv]
 exact tZ (iL a vs) 801 vs.length fun j _=>by have:=tQ h ((vs[j]?).getD 0);unfold iL;omega
theorem Wf{α β:Type}(L:List Nat)(key:Nat->Nat)(item:Nat->α)(f:α->β)(k:Nat):(L.map (bk key (fun j=>f (item j)) k)).flatten=((L.map (bk key item k)).flatten).map f:=by
 induction L with
 |nil=>rfl
 |cons d L ih=>simp only [List.map_cons,List.flatten_cons,List.map_append,ih,Np]
theorem Ru{a:eV}{vs:List Int}{mem:List Value}(h:Bk (oY (gZ a vs)) 801 (iL a vs) (fun j=>i64 ((vs[j]?).getD 0)) vs.length mem):mem=(sK a vs).map i64:=
 (h.whole fun v hv=>(zC hv).symm).trans (Wf _ _ _ _ _)
theorem Zm{α:Type}(key:Nat->Nat)(a0:Nat->α)(k m:Nat):((List.range m).map (bk key a0 k)).flatten.length=dZ (dV key k) m:=by
 induction m with
 |zero=>rfl
 |succ m ih=>
  rw[List.range_succ,List.map_append,List.flatten_append,List.length_append,ih]
  show _+(bk _ _ _ _++ []).length=dZ _ m+dV _ _ m
  rw[List.append_nil,vY]
theorem Ay{a:eV}(ha:rH a)(vs:List Int):(sK a vs).length=vs.length:=
 (Zm _ _ _ _).trans (tZ (iL a vs) 801 vs.length fun j _=>by have:=tQ ha ((vs[j]?).getD 0);unfold iL;omega)
def cF(n:Nat)(l:List E4):List Int:=sK (jF n l) (dP (jF n l) n)
end Go.Am
end

noncomputable section
namespace Go.Am
open Go
def pRefA(ty:TypeId)(x:Nat×List E4)(v:Value)(M:aA):Prop:= ∃b L,v=pt b 0/\M.get b=some ⟨[i64 ((x.1:Nat):Int),L],ty,2,0,true⟩/\aV x.2 L M
instance(ty:TypeId):AP (pRefA ty):=⟨fun{x y _ _} ⟨b,L,h1,h2,h3⟩ ⟨c,K,k1,k2,k3⟩=>by
 rw[h1] at k1
 simp only [Value.pointer.injEq,Option.some.injEq,Addr.mk.injEq,and_true] at k1
 subst k1
 rw[h2] at k2
 simp only [Option.some.injEq,aS.mk.injEq,List.cons.injEq,and_true] at k2
 obtain⟨e1,rfl⟩:=k2
 have e2:=AP.uniq (R:=aV) h3 k3
 obtain⟨a,b⟩:=x;obtain⟨c,d⟩:=y
 have h4:a=c:=by have:((a:Nat):Int)=((c:Nat):Int):=by simpa [i64] using e1
                 omega
 have h5:b=d:=e2
 rw[h4,h5],fun hE ⟨b,L,h1,h2,h3⟩=>⟨b,L,h1,hE _ _ h2,AP.ext (R:=aV) hE h3⟩⟩
def lH(k:uZ)(l:List E4)(v:Int)(i:Nat):List Int:=(List.range i).filterMap fun j=>match l[j]? with
 |some e=>if eE k e=v then some ((j:Nat):Int) else none
 |none=>none
theorem Me(k:uZ){l:List E4}(v:Int){i:Nat}{e:E4}(h:l[i]?=some e):lH k l v (i+1)=lH k l v i++(if eE k e=v then[((i:Nat):Int)] else[]):=by
 unfold lH
 rw[List.range_succ,List.filterMap_append]
 by_cases hh:eE k e=v<;>simp [h,hh]
theorem Ej(k:uZ)(l:List E4)(v:Int)(i:Nat):(lH k l v i).length<=i:=by
 have:=List.length_filterMap_le (fun j:Nat=>match l[j]? with
  |some e=>if eE k e=v then some ((j:Nat):Int) else none
  |none=>none) (List.range i)
 simpa [lH] using this
theorem qK{k:uZ}{n:Nat}{l:List E4}{v:Int}(hv:0<=v/\v<(n:Int))(hb: ∀x∈l.map (eE k),0<=x/\x<(n:Int)):dS (mJ n (l.map (eE k))) v=lH k l v l.length:=by
 unfold dS
 rw[if_pos hv.1]
 have h1:(mJ n (l.map (eE k)))[v.toNat]?=some (bk (eQ (l.map (eE k))) (fun j=>((j:Nat):Int)) (l.map (eE k)).length v.toNat):=by
  unfold mJ
  rw[List.getElem?_map,List.getElem?_range (by omega)];rfl
 rw[h1,Option.getD_some,List.length_map]
 have: ∀i,i<=l.length->bk (eQ (l.map (eE k))) (fun j=>((j:Nat):Int)) i v.toNat=lH k l v i:=fun i=>by
  induction i with
  |zero=>intro _;rfl
  |succ i ih=>
   intro hi
   have he:l[i]?=some l[i]:=List.getElem?_eq_getElem (by omega)
   rw[uI,Me k v he,ih (by omega)]
   have hbi:=hb (eE k l[i]) (List.mem_map.2 ⟨l[i],List.getElem_mem _,rfl⟩)
   have hk:eQ (l.map (eE k)) i=(eE k l[i]).toNat:=by rw[Bt (by simp;omega)];simp
   rw[hk]
   by_cases hh:eE k l[i]=v
   ·rw[if_pos hh,if_pos (by rw[hh])]
   ·rw[if_neg hh,if_neg (by omega)]
 exact this _ (Nat.le_refl _)
def fS(l:List E4)(v:Int)(i:Nat):Int:=(l.take i).foldl (fun s e=>if e.f=v\/e.t=v then Na s (wT e.m) else s) 0
theorem vI{l:List E4}(v:Int){i:Nat}{e:E4}(h:l[i]?=some e):fS l v (i+1)=if e.f=v\/e.t=v then Na (fS l v i) (wT e.m) else fS l v i:=by
 obtain⟨hi,rfl⟩:=List.getElem?_eq_some_iff.1 h
 unfold fS
 rw[List.take_succ_eq_append_getElem hi,List.foldl_append]
 rfl
def Xm(s:Int):Int:=IntKind.wrap .i64 (IntKind.wrap .i64 (IntKind.wrap .i64 (IntKind.wrap .i64 (IntKind.wrap .i64 ((0:Int)+Si (s.fdiv (2^(0:Int).toNat)) (1:Int))+Si (s.fdiv (2^(1:Int).toNat)) (1:Int))+Si (s.fdiv (2^(2:Int).toNat)) (1:Int))+Si (s.fdiv (2^(3:Int).toNat)) (1:Int))+Si (s.fdiv (2^(4:Int).toNat)) (1:Int))
def vF(l:List E4)(v:Int):Bool:=decide (Xm (fS l v l.length)>=(2:Int))
def qW(l:List E4)(v:Int):Nat:=(lH .fr l v l.length).length+(lH .to l v l.length).length
def mY(l:List E4)(d i:Nat):List Int:=(List.range i).filterMap fun v=>if vF l ((v:Nat):Int)=false/\qW l ((v:Nat):Int)=d then some ((v:Nat):Int) else none
theorem Md(l:List E4)(d i:Nat):mY l d (i+1)=mY l d i++(if vF l ((i:Nat):Int)=false/\qW l ((i:Nat):Int)=d then[((i:Nat):Int)] else[]):=by
 unfold mY
 rw[List.range_succ,List.filterMap_append]
 by_cases h:vF l ((i:Nat):Int)=false/\qW l ((i:Nat):Int)=d<;>simp [h]
def nF(l:List E4)(n d:Nat):List Int:=((List.range d).map fun k=>mY l k n).flatten
theorem xX(l:List E4)(n d:Nat):nF l n (d+1)=nF l n d++mY l d n:=by simp [nF,List.range_succ]
def Ot(n:Nat)(l:List E4):List Int:=nF l n (2*l.length+1)
end Go.Am
end

noncomputable section
namespace Go.Am
open Go
theorem Iw{x y:Int}(hx:0<=x/\x<32)(hy:0<=y/\y<32)(k:Nat):(Na x y).toNat.testBit k=(x.toNat.testBit k||y.toNat.testBit k):=by
 rw[(Eb hx hy).1,Int.toNat_natCast,Nat.testBit_or]
theorem Mo(m:Int)(k:Nat):(wT m).toNat.testBit k=decide (m.toNat=k):=by
 unfold wT
 rw[Int.toNat_natCast,Nat.testBit_two_pow]
theorem Hi{set:List Int}(hs: ∀z∈set,0<=z/\z<32)(es:List Int)(k:Nat):(eZ set es).toNat.testBit k=es.any fun j=>((set[j.toNat]?).getD 0).toNat.testBit k:=by
 unfold eZ
 have hz: ∀e:Int,0<=((set[e.toNat]?).getD 0)/\((set[e.toNat]?).getD 0)<32:=fun e=>by
  cases hh:set[e.toNat]? with
  |none=>simp
  |some z=>exact hs z (List.mem_of_getElem? hh)
 have: ∀(es:List Int) (s:Int),0<=s/\s<32->(es.foldl (fun s i=>Na s ((set[i.toNat]?).getD 0)) s).toNat.testBit k=(s.toNat.testBit k||es.any fun j=>((set[j.toNat]?).getD 0).toNat.testBit k):=fun es=>by
  induction es with
  |nil=>intro s _;simp
  |cons e es ih=>
   intro s h
   rw[List.foldl_cons,ih _ (Eb h (hz e)).2,Iw h (hz e),List.any_cons,Bool.or_assoc]
 rw[this es 0 (by omega)]
 simp
theorem kG{l:List E4}(a0: ∀e∈l,Ps e)(v:Int): ∀i,i<=l.length->0<=fS l v i/\fS l v i<32
 |0,_=>by unfold fS;simp
 |i+1,h=>by
  have ih:=kG a0 v i (by omega)
  have he:l[i]?=some l[i]:=List.getElem?_eq_getElem (by omega)
  rw[vI v he]
  split
  ·exact(Eb ih (wU (a0 _ (List.getElem_mem _)).1 (a0 _ (List.getElem_mem _)).2)).2
  ·exact ih
theorem sH{l:List E4}(a0: ∀e∈l,Ps e)(v:Int)(k:Nat): ∀i,i<=l.length->((fS l v i).toNat.testBit k=true↔ ∃j e,j<i/\l[j]?=some e/\(e.f=v\/e.t=v)/\e.m.toNat=k)
 |0,_=>by unfold fS;simp
 |i+1,h=>by
  have ih:=sH a0 v k i (by omega)
  have he:l[i]?=some l[i]:=List.getElem?_eq_getElem (by omega)
  have hm:=a0 _ (List.getElem_mem (show i<l.length by omega))
  have hx:(∃j e,j<i+1/\l[j]?=some e/\(e.f=v\/e.t=v)/\e.m.toNat=k)↔(∃j e,j<i/\l[j]?=some e/\(e.f=v\/e.t=v)/\e.m.toNat=k)\/((l[i].f=v\/l[i].t=v)/\l[i].m.toNat=k):=by
   constructor
   ·rintro⟨j,e,h1,h2,h3⟩
    by_cases hj:j=i
    ·subst hj;rw[he] at h2;cases h2;exact .inr h3
    ·exact .inl ⟨j,e,by omega,h2,h3⟩
   ·rintro(⟨j,e,h1,h2,h3⟩|h3)
    ·exact⟨j,e,by omega,h2,h3⟩
    ·exact⟨i,_,by omega,he,h3⟩
  rw[hx,<-ih,vI v he]
  by_cases hv:l[i].f=v\/l[i].t=v
  ·rw[if_pos hv,Iw (kG a0 v i (by omega)) (wU hm.1 hm.2),Mo]
   simp [hv]
  ·rw[if_neg hv]
   simp [hv]
theorem sI{k:uZ}{l:List E4}{v:Int}{i:Nat}{x:Int}:x∈lH k l v i↔ ∃j e,j<i/\l[j]?=some e/\eE k e=v/\x=((j:Nat):Int):=by
 unfold lH
 simp only [List.mem_filterMap,List.mem_range]
 constructor
 ·rintro⟨j,h1,h2⟩
  cases he:l[j]? with
  |none=>rw[he] at h2;cases h2
  |some e=>
   rw[he] at h2
   simp only at h2
   by_cases hh:eE k e=v
   ·rw[if_pos hh] at h2;exact⟨j,e,h1,he,hh,(Option.some.inj h2).symm⟩
   ·rw[if_neg hh] at h2;cases h2
 ·rintro⟨j,e,h1,h2,h3,rfl⟩
  exact⟨j,h1,by rw[h2];simp [h3]⟩
theorem Uc{n:Nat}{l:List E4}(h:eP ((n:Nat):Int) l=true){v:Int}(hv:0<=v/\v<(n:Int)):kE (jF n l) v=fS l v l.length:=by
 obtain⟨_,_,h3,h4⟩:=fM h
 have a1: ∀e∈l,Ps e:=fun e he=>(h4 e he).2.2.2.2
 have ha:=Lt h
 have r1:=sC ha v
 have r2:=kG a1 v l.length (Nat.le_refl _)
 have e1:dS (jF n l).out v=lH .fr l v l.length:=qK hv (mZ h (by simp))
 have e2:dS (jF n l).inn v=lH .to l v l.length:=qK hv (mZ h (by simp))
 have u1:=oK ha.2.2.2 (dS (jF n l).out v)
 have u2:=oK ha.2.2.2 (dS (jF n l).inn v)
 have key:(kE (jF n l) v).toNat=(fS l v l.length).toNat:=by
  apply Nat.eq_of_testBit_eq
  intro k
  rw[Bool.eq_iff_iff,sH a1 v k _ (Nat.le_refl _)]
  unfold kE
  rw[Iw u1 u2,Hi ha.2.2.2,Hi ha.2.2.2,e1,e2]
  simp only [Bool.or_eq_true,List.any_eq_true]
  have a0: ∀(j:Nat) (e:E4),l[j]?=some e->(((jF n l).set[((j:Nat):Int).toNat]?).getD 0).toNat.testBit k=decide (e.m.toNat=k):=fun j e he=>by
   show(((l.map (eE .set))[((j:Nat):Int).toNat]?).getD 0).toNat.testBit k=_
   rw[Int.toNat_natCast,List.getElem?_map,he]
   exact Mo e.m k
  constructor
  ·rintro(⟨x,hx,hb⟩|⟨x,hx,hb⟩)
   ·obtain⟨j,e,q1,q2,q3,rfl⟩:=sI.1 hx
    rw[a0 j e q2] at hb
    exact⟨j,e,q1,q2,.inl q3,of_decide_eq_true hb⟩
   ·obtain⟨j,e,q1,q2,q3,rfl⟩:=sI.1 hx
    rw[a0 j e q2] at hb
    exact⟨j,e,q1,q2,.inr q3,of_decide_eq_true hb⟩
  ·rintro⟨j,e,q1,q2,q3|q3,q4⟩
   ·exact .inl ⟨_,sI.2 ⟨j,e,q1,q2,q3,rfl⟩,by rw[a0 j e q2];exact decide_eq_true q4⟩
   ·exact .inr ⟨_,sI.2 ⟨j,e,q1,q2,q3,rfl⟩,by rw[a0 j e q2];exact decide_eq_true q4⟩
 omega
theorem Xn{s:Int}(h:0<=s/\s<32):decide (Xm s>=(2:Int))=decide (((Iz s.toNat:Nat):Int)>=2):=by
 have key: ∀k:Fin 32,decide (Xm ((k.val:Nat):Int)>=(2:Int))=decide (((Iz k.val:Nat):Int)>=2):=by decide+kernel
 have:=key ⟨s.toNat,by omega⟩
 simp only at this
 rw[Int.toNat_of_nonneg h.1] at this
 exact this
theorem Wo{n:Nat}{l:List E4}(h:eP ((n:Nat):Int) l=true){v:Int}(hv:0<=v/\v<(n:Int)):jS (jF n l) v=vF l v:=by
 unfold jS vF
 rw[Uc h hv]
 obtain⟨_,_,_,h4⟩:=fM h
 exact(Xn (kG (fun e he=>(h4 e he).2.2.2.2) v l.length (Nat.le_refl _))).symm
theorem Zg{n:Nat}{l:List E4}(h:eP ((n:Nat):Int) l=true){v:Int}(hv:0<=v/\v<(n:Int)):dX (jF n l) v=qW l v:=by
 have e1:dS (jF n l).out v=lH .fr l v l.length:=qK hv (mZ h (by simp))
 have e2:dS (jF n l).inn v=lH .to l v l.length:=qK hv (mZ h (by simp))
 unfold dX qW
 rw[e1,e2]
theorem Hc(l:List E4)(v:Int):qW l v<=2*l.length:=by
 have h1:=Ej .fr l v l.length
 have h2:=Ej .to l v l.length
 unfold qW;omega
theorem Qn(f:Int->Nat)(vs:List Int)(d:Nat):bk (fun j=>f ((vs[j]?).getD 0)) (fun j=>(vs[j]?).getD 0) vs.length d=vs.filter fun x=>decide (f x=d):=by
 have: ∀i,i<=vs.length->bk (fun j=>f ((vs[j]?).getD 0)) (fun j=>(vs[j]?).getD 0) i d=(vs.take i).filter fun x=>decide (f x=d):=fun i=>by
  induction i with
  |zero=>intro _;rfl
  |succ i ih=>
   intro hi
   rw[uI,ih (by omega),List.take_succ_eq_append_getElem (by omega),List.filter_append,List.getElem?_eq_getElem (by omega)]
   simp only [Option.getD_some]
   by_cases hh:f vs[i]=d<;>simp [hh]
 rw[this _ (Nat.le_refl _),List.take_length]
theorem Dd{α β:Type}{f g:α->Option β}: ∀{l:List α},(∀x∈l,f x=g x)->l.filterMap f=l.filterMap g
 | [],_=>rfl
 |x::l,h=>by
  rw[List.filterMap_cons,List.filterMap_cons,h x (List.mem_cons_self ..),Dd fun y hy=>h y (List.mem_cons_of_mem _ hy)]
theorem Lv{n:Nat}{l:List E4}(h:eP ((n:Nat):Int) l=true):cF n l=Ot n l:=by
 obtain⟨_,_,h3,_⟩:=fM h
 have hd: ∀d,bk (iL (jF n l) (dP (jF n l) n)) (fun j=>((dP (jF n l) n)[j]?).getD 0) (dP (jF n l) n).length d=mY l d n:=fun d=>by
  rw[show iL (jF n l) (dP (jF n l) n)=fun j=>dX (jF n l) (((dP (jF n l) n)[j]?).getD 0) from rfl,Qn]
  unfold dP mY
  rw[List.filter_filterMap]
  refine Dd fun v hv=> ?_
  have a1:0<=((v:Nat):Int)/\((v:Nat):Int)<(n:Int):=by have:=List.mem_range.1 hv;omega
  rw[Wo h a1]
  cases hl:vF l ((v:Nat):Int) with
  |true=>simp
  |false=>
   have:=Zg h a1
   by_cases hdd:qW l ((v:Nat):Int)=d
   ·simp [this,hdd,Option.filter]
   ·simp [this,hdd,Option.filter]
 have a0: ∀d,2*l.length<d->mY l d n= []:=fun d a3=>by
  unfold mY
  rw[List.filterMap_eq_nil_iff]
  intro v _
  have:=Hc l ((v:Nat):Int)
  rw[if_neg (by omega)]
 have a2: ∀k,nF l n (2*l.length+1+k)=nF l n (2*l.length+1):=fun k=>by
  induction k with
  |zero=>rfl
  |succ k ih=>rw[show 2*l.length+1+(k+1)=(2*l.length+1+k)+1 by omega,xX,ih,a0 _ (by omega),List.append_nil]
 unfold cF sK Ot
 rw[<-a2 (801-(2*l.length+1)),show 2*l.length+1+(801-(2*l.length+1))=801 by omega]
 exact congrArg List.flatten (List.map_congr_left fun d _=>hd d)
end Go.Am
end
