/-
  Package hier: each of its laws for every argument; no conditions. The last text states which.
-/
import Derived.Test.YtdaglldahidmbaaGAmPw
set_option linter.unusedVariables false
set_option linter.unusedSimpArgs false
noncomputable section
namespace Go.Am
open Go
def dS(c:Nat->Nat):Nat->Nat
 |0=>0
 |v+1=>dS c v+c v
theorem Gs(c:Nat->Nat): ∀{u v:Nat},u<=v->dS c u<=dS c v
 |u,0,h=>by have:u=0:=by omega
            subst this;exact Nat.le_refl _
 |u,v+1,h=>by
  by_cases e:u=v+1
  ·subst e;exact Nat.le_refl _
  ·have:=Gs c (show u<=v by omega)
   show dS c u<=dS c v+c v
   omega
theorem oG(c:Nat->Nat){u v:Nat}(h:u<v):dS c u+c u<=dS c v:=Gs c (show u+1<=v from h)
theorem Dp{c d:Nat->Nat}: ∀{n:Nat},(∀v,v<n->c v=d v)->dS c n=dS d n
 |0,_=>rfl
 |n+1,h=>by show dS c n+c n=dS d n+d n;rw[Dp (n:=n) fun v hv=>h v (by omega),h n (by omega)]
def bk{α:Type}(key:Nat->Nat)(item:Nat->α)(i v:Nat):List α:=(List.range i).filterMap fun j=>if key j=v then some (item j) else none
theorem tU{α:Type}(key:Nat->Nat)(item:Nat->α)(i v:Nat):bk key item (i+1) v=bk key item i v++(if key i=v then[item i] else[]):=by
 unfold bk
 rw[List.range_succ,List.filterMap_append]
 by_cases h:key i=v<;>simp [h]
theorem Nd{α β:Type}(key:Nat->Nat)(item:Nat->α)(f:α->β)(i v:Nat):(bk key item i v).map f=bk key (fun j=>f (item j)) i v:=by
 induction i with
 |zero=>rfl
 |succ i ih=>rw[tU,tU,List.map_append,ih];by_cases h:key i=v<;>simp [h]
def iR(key:Nat->Nat)(i v:Nat):Nat:=(bk key (fun _=>()) i v).length
theorem vM{α:Type}(key:Nat->Nat)(item:Nat->α)(i v:Nat):(bk key item i v).length=iR key i v:=by
 unfold iR
 rw[<-Nd key item (fun _=>())]
 simp
theorem jS(key:Nat->Nat)(i v:Nat):iR key (i+1) v=iR key i v+(if key i=v then 1 else 0):=by
 unfold iR
 rw[tU,List.length_append]
 by_cases h:key i=v<;>simp [h]
theorem Kd(key:Nat->Nat)(v:Nat): ∀{i j:Nat},i<=j->iR key i v<=iR key j v
 |i,0,h=>by have:i=0:=by omega
            subst this;exact Nat.le_refl _
 |i,j+1,h=>by
  by_cases e:i=j+1
  ·subst e;exact Nat.le_refl _
  ·have:=Kd key v (show i<=j by omega)
   rw[jS];omega
theorem Sd(key:Nat->Nat){i j:Nat}(h:i<j):iR key i (key i)<iR key j (key i):=by
 have h1:=Kd key (key i) (show i+1<=j from h)
 rw[jS,if_pos rfl] at h1
 omega
theorem tL(key:Nat->Nat)(n:Nat): ∀(i:Nat),(∀j,j<i->key j<n)->dS (iR key i) n=i
 |0,_=>by
  have: ∀n,dS (iR key 0) n=0:=fun n=>by
   induction n with
   |zero=>rfl
   |succ n ih=>show dS (iR key 0) n+iR key 0 n=0;rw[ih];rfl
  exact this n
 |i+1,h=>by
  have ih:=tL key n i fun j hj=>h j (by omega)
  have hk:=h i (by omega)
  have: ∀m,dS (iR key (i+1)) m=dS (iR key i) m+(if key i<m then 1 else 0):=fun m=>by
   induction m with
   |zero=>rfl
   |succ m ihm=>
    show dS (iR key (i+1)) m+iR key (i+1) m=dS (iR key i) m+iR key i m+_
    rw[ihm,jS]
    by_cases h1:key i<m
    ·rw[if_pos h1,if_neg (by omega),if_pos (by omega)];omega
    ·by_cases h2:key i=m
     ·rw[if_neg h1,if_pos h2,if_pos (by omega)];omega
     ·rw[if_neg h1,if_neg h2,if_neg (by omega)];omega
  rw[this,ih,if_pos hk]
structure Bk(c:Nat->Nat)(n:Nat)(key:Nat->Nat)(item:Nat->Value)(i:Nat)(mem:List Value):Prop where
 len:mem.length=dS c n
 le: ∀v,v<n->iR key i v<=c v
 at_: ∀v k,v<n->k<iR key i v->mem[dS c v+k]?=(bk key item i v)[k]?
theorem Bk.zero{c:Nat->Nat}{n:Nat}{key:Nat->Nat}{item:Nat->Value}{mem:List Value}(h:mem.length=dS c n):Bk c n key item 0 mem:=
 ⟨h,fun v _=>Nat.zero_le _,fun v k _ hk=>absurd hk (Nat.not_lt_zero _)⟩
theorem Bk.room{c:Nat->Nat}{n:Nat}{key:Nat->Nat}{item:Nat->Value}{i:Nat}{mem:List Value}(h:Bk c n key item i mem){v:Nat}(hv:v<n)(hc:iR key i v<c v):dS c v+iR key i v<mem.length:=by
 have:=oG c hv
 rw[h.len];omega
theorem Bk.step{c:Nat->Nat}{n:Nat}{key:Nat->Nat}{a0:Nat->Value}{i:Nat}{mem:List Value}(h:Bk c n key a0 i mem)(hv:key i<n)(hc:iR key i (key i)<c (key i)):
  Bk c n key a0 (i+1) (splice mem (dS c (key i)+iR key i (key i)) [a0 i]):=by
 have a2:=h.room hv hc
 rw[fN _ _ _ a2]
 refine⟨by rw[List.length_set];exact h.len,fun v hvn=> ?_,fun v k hvn hk=> ?_⟩
 ·rw[jS]
  by_cases e:key i=v
  ·subst e;rw[if_pos rfl];omega
  ·rw[if_neg e];exact h.le v hvn
 ·rw[tU]
  rw[jS] at hk
  by_cases e:key i=v
  ·subst e
   rw[if_pos rfl] at hk⊢
   by_cases a1:k<iR key i (key i)
   ·rw[List.getElem?_set_ne (by omega),h.at_ _ _ hvn a1,List.getElem?_append_left (by rw[vM];exact a1)]
   ·have:k=iR key i (key i):=by omega
    subst this
    rw[List.getElem?_set_self a2,List.getElem?_append_right (by rw[vM];exact Nat.le_refl _),vM,Nat.sub_self]
    rfl
  ·rw[if_neg e] at hk⊢
   rw[List.append_nil]
   have hle:=h.le v hvn
   have a3:dS c (key i)+iR key i (key i)≠dS c v+k:=by
    rcases Nat.lt_or_gt_of_ne e with h1|h1
    ·have:=oG c h1;omega
    ·have:=oG c h1;omega
   rw[List.getElem?_set_ne a3]
   exact h.at_ v k hvn (by omega)
theorem Bk.row{c:Nat->Nat}{n:Nat}{key:Nat->Nat}{a0:Nat->Value}{i:Nat}{mem:List Value}(h:Bk c n key a0 i mem){v:Nat}(hv:v<n):(mem.drop (dS c v)).take (iR key i v)=bk key a0 i v:=by
 apply List.ext_getElem?
 intro k
 by_cases hk:k<iR key i v
 ·rw[List.getElem?_take_of_lt hk,List.getElem?_drop,h.at_ v k hv hk]
 ·rw[List.getElem?_eq_none (by simp;omega),List.getElem?_eq_none (by rw[vM];omega)]
theorem Bk.whole{c:Nat->Nat}{n:Nat}{key:Nat->Nat}{a0:Nat->Value}{i:Nat}{mem:List Value}(h:Bk c n key a0 i mem)(hf: ∀v,v<n->iR key i v=c v):mem=((List.range n).map (bk key a0 i)).flatten:=by
 have: ∀m,m<=n->mem.take (dS c m)=((List.range m).map (bk key a0 i)).flatten:=fun m=>by
  induction m with
  |zero=>intro _;rfl
  |succ m ih=>
   intro hm
   have h1:=h.row (v:=m) (by omega)
   rw[hf m (by omega)] at h1
   show mem.take (dS c m+c m)=_
   rw[List.take_add,ih (by omega),h1,List.range_succ]
   simp
 rw[<-this n (Nat.le_refl _),<-h.len,List.take_length]
def Aa(m:Nat)(c ln:Nat->Nat)(v:Nat):Value:=aC m (dS c v) (ln v) (c v+1)
def dN(m:Nat)(c ln:Nat->Nat)(n:Nat):List Value:=(List.range n).map (Aa m c ln)
theorem fV(m:Nat)(c ln:Nat->Nat)(n:Nat):(dN m c ln n).length=n:=by simp [dN]
theorem hQ(m:Nat)(c ln:Nat->Nat){n v:Nat}(h:v<n):(dN m c ln n)[v]?=some (Aa m c ln v):=by simp [dN,h]
theorem uY(m:Nat)(c:Nat->Nat)(key:Nat->Nat)(i n:Nat)(h:key i<n):splice (dN m c (iR key i) n) (key i) [aC m (dS c (key i)) (iR key i (key i)+1) (c (key i)+1)]=dN m c (iR key (i+1)) n:=by
 rw[fN _ _ _ (by rw[fV];exact h)]
 apply List.ext_getElem?
 intro v
 by_cases e:key i=v
 ·subst e
  rw[List.getElem?_set_self (by rw[fV];exact h),hQ _ _ _ h]
  unfold Aa
  rw[jS,if_pos rfl]
 ·rw[List.getElem?_set_ne e]
  by_cases hv:v<n
  ·rw[hQ _ _ _ hv,hQ _ _ _ hv]
   unfold Aa
   rw[jS,if_neg e];rfl
  ·rw[List.getElem?_eq_none (by rw[fV];omega),List.getElem?_eq_none (by rw[fV];omega)]
def bC(rs:List (List Int))(v:Value)(M:aA):Prop:= ∃E c blk,v=aC E 0 rs.length c/\M.get E=some blk/\blk.esz=1/\blk.cs.length=rs.length/\ ∀(u:Nat) (r:List Int),rs[u]?=some r-> ∃x,blk.cs[u]?=some x/\aL r x M
instance:AP bC:=⟨fun{x y _ _} ⟨E,c,blk,h1,h2,_,_,h5⟩ ⟨E',c',blk',k1,k2,_,_,k5⟩=>by
 rw[h1] at k1
 simp only [Value.slice.injEq,Option.some.injEq,Addr.mk.injEq,and_true] at k1
 obtain⟨rfl,hl,_⟩:=k1
 rw[h2] at k2;cases k2
 apply List.ext_getElem?
 intro u
 by_cases hu:u<x.length
 ·obtain⟨a,a1,a2⟩:=h5 u x[u] (List.getElem?_eq_getElem hu)
  obtain⟨b,b1,b2⟩:=k5 u y[u] (List.getElem?_eq_getElem (by omega))
  rw[a1] at b1;cases b1
  rw[List.getElem?_eq_getElem hu,List.getElem?_eq_getElem (by omega),AP.uniq (R:=aL) a2 b2]
 ·rw[List.getElem?_eq_none (by omega),List.getElem?_eq_none (by omega)],
 fun hE ⟨E,c,blk,h1,h2,h3,h4,h5⟩=>⟨E,c,blk,h1,hE _ _ h2,h3,h4,fun u r hr=>let ⟨x,a,b⟩:=h5 u r hr;⟨x,a,AP.ext (R:=aL) hE b⟩⟩⟩
theorem Uj{M:aA}{E m n k:Nat}{c:Nat->Nat}{key:Nat->Nat}{a0:Nat->Int}{mem:List Value}{tE tm wE wm:Nat}{qE qm:Bool}(hE:M.get E=some ⟨dN m c (iR key k) n,tE,1,wE,qE⟩)(hm:M.get m=some ⟨mem,tm,1,wm,qm⟩)(h:Bk c n key (fun j=>i64 (a0 j)) k mem)(hk:k<=9223372036854775807)(cp:Nat):
  bC ((List.range n).map (bk key a0 k)) (aC E 0 n cp) M:=by
 refine⟨E,cp,_,by simp,hE,rfl,by rw[fV];simp,fun u r hr=> ?_⟩
 have hu:u<n:=by
  have:=(List.getElem?_eq_some_iff.1 hr).1
  simpa using this
 simp [hu] at hr
 subst hr
 refine⟨_,hQ _ _ _ hu,?_⟩
 unfold Aa
 have hb:(bk key a0 k u).map i64=bk key (fun j=>i64 (a0 j)) k u:=Nd _ _ _ _ _
 have h1:=h.row hu
 have a1:(bk key a0 k u).length=iR key k u:=vM _ _ _ _
 have hle:=h.le u hu
 have hnx:=oG c hu
 rw[<-a1]
 refine aH.of_blk (blk:=⟨mem,tm,1,wm,qm⟩) (pre:=mem.take (dS c u)) (post:=mem.drop (dS c u+iR key k u)) hm ?_ ?_ (fun _ _=>rfl) rfl ?_
 ·show mem=_
  rw[Ac,hb,<-h1,List.append_assoc,<-List.drop_drop,List.take_append_drop,List.take_append_drop]
 ·rw[List.length_take,h.len]
  omega
 ·rw[a1]
  have: ∀i,iR key i u<=i:=fun i=>by
   induction i with
   |zero=>exact Nat.le_refl _
   |succ i ih=>rw[jS];split<;>omega
  exact Nat.le_trans (this k) hk
def eM(ends:List Int)(j:Nat):Nat:=((ends[j]?).getD 0).toNat
theorem Bj{ends:List Int}{j:Nat}(h:j<ends.length):eM ends j=(ends[j]).toNat:=by unfold eM;rw[List.getElem?_eq_getElem h];rfl
theorem Bl{ends:List Int}{n:Nat}(hb: ∀x∈ends,0<=x/\x<(n:Int)){j:Nat}(h:j<ends.length):eM ends j<n:=by
 rw[Bj h]
 have:=hb _ (List.getElem_mem h)
 omega
def gY(key:Nat->Nat)(i n:Nat):List Value:=(List.range n).map fun v=>i64 ((iR key i v:Nat):Int)
theorem iT(key:Nat->Nat)(i n:Nat):(gY key i n).length=n:=by simp [gY]
theorem iS(key:Nat->Nat)(i:Nat){n v:Nat}(h:v<n):(gY key i n)[v]?=some (i64 ((iR key i v:Nat):Int)):=by simp [gY,h]
theorem uR(key:Nat->Nat)(n:Nat):gY key 0 n=List.replicate n (i64 0):=by
 apply List.ext_getElem?
 intro v
 by_cases hv:v<n
 ·rw[iS _ _ hv,List.getElem?_replicate,if_pos hv];rfl
 ·rw[List.getElem?_eq_none (by rw[iT];omega),List.getElem?_eq_none (by simp;omega)]
theorem uQ(key:Nat->Nat){i n:Nat}(h:key i<n):splice (gY key i n) (key i) [i64 ((iR key i (key i)+1:Nat):Int)]=gY key (i+1) n:=by
 rw[fN _ _ _ (by rw[iT];exact h)]
 apply List.ext_getElem?
 intro v
 by_cases e:key i=v
 ·subst e
  rw[List.getElem?_set_self (by rw[iT];exact h),iS _ _ h,jS,if_pos rfl]
 ·rw[List.getElem?_set_ne e]
  by_cases hv:v<n
  ·rw[iS _ _ hv,iS _ _ hv,jS,if_neg e];rfl
  ·rw[List.getElem?_eq_none (by rw[iT];omega),List.getElem?_eq_none (by rw[iT];omega)]
theorem Cl(key:Nat->Nat)(i v:Nat):iR key i v<=i:=by
 induction i with
 |zero=>exact Nat.le_refl _
 |succ i ih=>rw[jS];split<;>omega
theorem Us{i:Nat}(h:i<1099511627776):IntKind.wrap .i64 ((i:Nat):Int)=((i:Nat):Int):=Go.Am.eK (by omega) (by omega)
theorem Ep{i j:Nat}(h:i+j<1099511627776):IntKind.wrap .i64 (((i:Nat):Int)+((j:Nat):Int))=((i+j:Nat):Int):=by
 rw[<-Us h];congr 1
def mE(n:Nat)(ends:List Int):List (List Int):=(List.range n).map (bk (eM ends) (fun j=>((j:Nat):Int)) ends.length)
theorem Ed(n:Nat)(ends:List Int):(mE n ends).length=n:=by simp [mE]
def Tt(x:Nat×List Int)(nx:Nat)(v:Value)(M:aA):Prop:= ∃E D,v=aC E 0 x.1 (x.1+1)/\nx<=E/\nx<=D/\D≠E/\M.get E=some ⟨dN D (iR (eM x.2) x.2.length) (fun _=>0) x.1,22,1,0,true⟩/\M.get D=some ⟨List.replicate x.2.length (i64 0),3,1,0,true⟩
instance:AQ Tt:=⟨fun hE ⟨E,D,h1,h2,h3,h4,h5,h6⟩=>⟨E,D,h1,h2,h3,h4,hE _ _ h5,hE _ _ h6⟩⟩
structure eR where
 out:List (List Int)
 inn:List (List Int)
 to:List Int
 set:List Int
def iY(n:Nat)(l:List E4):eR:=⟨mE n (l.map (dZ .fr)),mE n (l.map (dZ .to)),l.map (dZ .to),l.map (dZ .set)⟩
def eP(ty:TypeId)(a:eR)(v:Value)(M:aA):Prop:= ∃b o i t s,v=pt b 0/\M.get b=some ⟨[o,i,t,s],ty,4,0,true⟩/\bC a.out o M/\bC a.inn i M/\aL a.to t M/\aL a.set s M
instance(ty:TypeId):AP (eP ty):=⟨fun{x y _ _} ⟨b,o,i,t,s,h1,h2,h3,h4,h5,h6⟩ ⟨b',o',i',t',s',k1,k2,k3,k4,k5,k6⟩=>by
 rw[h1] at k1
 simp only [Value.pointer.injEq,Option.some.injEq,Addr.mk.injEq,and_true] at k1
 subst k1
 rw[h2] at k2
 simp only [Option.some.injEq,aQ.mk.injEq,List.cons.injEq,and_true,true_and] at k2
 obtain⟨rfl,rfl,rfl,rfl⟩:=k2
 have e1:=AP.uniq (R:=bC) h3 k3;have e2:=AP.uniq (R:=bC) h4 k4;have e3:=AP.uniq (R:=aL) h5 k5;have e4:=AP.uniq (R:=aL) h6 k6
 cases x;cases y;simp_all,
 fun hE ⟨b,o,i,t,s,h1,h2,h3,h4,h5,h6⟩=>⟨b,o,i,t,s,h1,hE _ _ h2,AP.ext (R:=bC) hE h3,AP.ext (R:=bC) hE h4,AP.ext (R:=aL) hE h5,AP.ext (R:=aL) hE h6⟩⟩
theorem Ga{x n:Int}:eH x n=true↔0<=x/\x<n:=by simp [eH]
theorem fX{n:Int}{l:List E4}(h:eX n l=true):1<=n/\n<=60/\l.length<=400/\ ∀e∈l,0<=e.f/\e.f<n/\0<=e.t/\e.t<n/\Qt e:=by
 simp only [eX,fZ,Bool.and_eq_true,Bool.not_eq_true',Bool.or_eq_false_iff,Bool.not_eq_false',decide_eq_true_eq,decide_eq_false_iff_not,List.all_eq_true] at h
 obtain⟨⟨⟨h1,h2⟩,h3⟩,h4⟩:=h
 refine⟨h1,h2,by omega,fun e he=> ?_⟩
 have:=h4 e he
 simp only [iH,Bool.and_eq_true,Ga,decide_eq_true_eq] at this
 obtain⟨⟨⟨⟨h5,h6⟩,h7⟩,h8⟩,h9⟩:=this
 exact⟨h5.1,h5.2,h6.1,h6.2,h7⟩
theorem mT{n:Int}{l:List E4}(h:eX n l=true){k:uK}(hk:k≠ .set): ∀x∈l.map (dZ k),0<=x/\x<n:=fun x hx=>by
 obtain⟨e,he,rfl⟩:=List.mem_map.1 hx
 obtain⟨_,_,_,hh⟩:=fX h
 have:=hh e he
 cases k
 ·exact⟨this.2.2.1,this.2.2.2.1⟩
 ·exact⟨this.1,this.2.1⟩
 ·exact absurd rfl hk
def dP(rs:List (List Int))(v:Int):List Int:=if 0<=v then(rs[v.toNat]?).getD [] else[]
theorem De{P:Program}{rs:List (List Int)}{E n c u:Nat}{r:List Int}{M:aA}{ty:TypeId}(h:bC rs (aC E 0 n c) M)(hu:rs[u]?=some r)(hd:(P.underlying ty).map dR=some false): ∃a c',bI P ty ⟨E,0+u*1,none⟩ M=some (.slice a r.length c')/\aL r (.slice a r.length c') M:=by
 obtain⟨E',c0,blk,h1,h2,_,_,h5⟩:=h
 simp only [Value.slice.injEq,Option.some.injEq,Addr.mk.injEq,and_true] at h1
 obtain⟨rfl,_,_⟩:=h1
 obtain⟨x,hx,hp⟩:=h5 u r hu
 obtain⟨a,c',rfl⟩:=aH.form hp
 exact⟨a,c',bG (a:=⟨E,0+u*1,none⟩) hd h2 (by simpa using hx),hp⟩
theorem eV{rs:List (List Int)}{v:Value}{M:aA}(h:bC rs v M): ∃E c,v=aC E 0 rs.length c:=by
 obtain⟨E,c,blk,h1,_⟩:=h
 exact⟨E,c,h1⟩
def rA(a:eR):Prop:=(∀r∈a.out,r.length<=400/\ ∀j∈r,0<=j/\j<(a.set.length:Int))/\(∀r∈a.inn,r.length<=400/\ ∀j∈r,0<=j/\j<(a.set.length:Int))/\a.set.length<=400/\ ∀z∈a.set,0<=z/\z<32
theorem Yh{α:Type}{key:Nat->Nat}{a0:Nat->α}{i v:Nat}{x:α}:x∈bk key a0 i v↔ ∃j,j<i/\key j=v/\a0 j=x:=by
 unfold bk
 simp only [List.mem_filterMap,List.mem_range]
 constructor
 ·rintro⟨j,h1,h2⟩
  by_cases h:key j=v
  ·rw[if_pos h] at h2;exact⟨j,h1,h,Option.some.inj h2⟩
  ·rw[if_neg h] at h2;cases h2
 ·rintro⟨j,h1,h2,rfl⟩
  exact⟨j,h1,by rw[if_pos h2]⟩
theorem Gw{n:Nat}{ends:List Int}(h:ends.length<=400): ∀r∈mE n ends,r.length<=400/\ ∀j∈r,0<=j/\j<(ends.length:Int):=fun r hr=>by
 obtain⟨v,_,rfl⟩:=List.mem_map.1 hr
 refine⟨by rw[vM];exact Nat.le_trans (Cl _ _ _) h,fun j hj=> ?_⟩
 obtain⟨k,h1,_,rfl⟩:=Yh.1 hj
 omega
theorem wG{m:Int}(h0:0<=m)(h5:m<5):0<=wF m/\wF m<32:=by
 have:m=0\/m=1\/m=2\/m=3\/m=4:=by omega
 rcases this with rfl|rfl|rfl|rfl|rfl<;>decide
theorem Lf{n:Nat}{l:List E4}(h:eX ((n:Nat):Int) l=true):rA (iY n l):=by
 obtain⟨_,_,h3,h4⟩:=fX h
 have e1:((l.map (dZ .set)).length:Int)=((l.map (dZ .fr)).length:Int):=by simp
 have e2:((l.map (dZ .set)).length:Int)=((l.map (dZ .to)).length:Int):=by simp
 refine⟨?_,?_,by simpa [iY] using h3,fun z hz=> ?_⟩
 ·show∀r∈mE n _,r.length<=400/\ ∀j∈r,0<=j/\j<((l.map (dZ .set)).length:Int)
  rw[e1];exact Gw (by simpa using h3)
 ·show∀r∈mE n _,r.length<=400/\ ∀j∈r,0<=j/\j<((l.map (dZ .set)).length:Int)
  rw[e2];exact Gw (by simpa using h3)
 ·obtain⟨e,he,rfl⟩:=List.mem_map.1 hz
  exact wG (h4 e he).2.2.2.2.1 (h4 e he).2.2.2.2.2
theorem qD{rs:List (List Int)}{p:List Int->Prop}(h: ∀r∈rs,p r)(h0:p [])(v:Int):p (dP rs v):=by
 unfold dP
 split
 ·cases hh:rs[v.toNat]? with
  |none=>exact h0
  |some r=>exact h r (List.mem_of_getElem? hh)
 ·exact h0
def eW(set es:List Int):Int:=es.foldl (fun s i=>Mk s ((set[i.toNat]?).getD 0)) 0
def jX(a:eR)(v:Int):Int:=Mk (eW a.set (dP a.out v)) (eW a.set (dP a.inn v))
def mR(ty:TypeId)(x:Nat×eR)(v:Value)(M:aA):Prop:= ∃p,v= .agg ⟨[i64 ((x.1:Nat):Int),p]⟩/\eP ty x.2 p M
instance(ty:TypeId):AP (mR ty):=⟨fun{x y _ _} ⟨p,h1,h2⟩ ⟨q,k1,k2⟩=>by
 rw[h1] at k1
 simp only [Value.agg.injEq,Array.mk.injEq,List.cons.injEq,and_true] at k1
 obtain⟨e1,rfl⟩:=k1
 have e2:=AP.uniq (R:=eP ty) h2 k2
 obtain⟨a,b⟩:=x;obtain⟨c,d⟩:=y
 have h3:a=c:=by have:((a:Nat):Int)=((c:Nat):Int):=by simpa [i64] using e1
                 omega
 have h4:b=d:=e2
 rw[h3,h4],fun hE ⟨p,h1,h2⟩=>⟨p,h1,AP.ext (R:=eP ty) hE h2⟩⟩
def pU(k:Nat)(v:Value)(_:aA):Prop:=v= .int .u64 ((k:Nat):Int)
instance:AP pU:=⟨fun h k=>by unfold pU at h k;rw[h] at k;simp at k;omega,fun _ h=>h⟩
def Ir(n:Nat):Nat:=n%2+n/2%2+n/4%2+n/8%2+n/16%2
theorem Ds{x y:Int}(hx:0<=x/\x<32)(hy:0<=y/\y<32):Mk x y=((x.toNat|||y.toNat:Nat):Int)/\0<=Mk x y/\Mk x y<32:=by
 have h:=Wi (x:=x.toNat) (y:=y.toNat) (by omega) (by omega)
 rw[Int.toNat_of_nonneg hx.1,Int.toNat_of_nonneg hy.1] at h
 have h2:x.toNat|||y.toNat<2^5:=Nat.or_lt_two_pow (by omega) (by omega)
 exact⟨h,by omega,by omega⟩
theorem oD{set:List Int}(hs: ∀z∈set,0<=z/\z<32)(es:List Int):0<=eW set es/\eW set es<32:=by
 unfold eW
 have: ∀(es:List Int) (s:Int),0<=s/\s<32->0<=es.foldl (fun s i=>Mk s ((set[i.toNat]?).getD 0)) s/\es.foldl (fun s i=>Mk s ((set[i.toNat]?).getD 0)) s<32:=fun es=>by
  induction es with
  |nil=>intro s h;exact h
  |cons e es ih=>
   intro s h
   have h2:0<=((set[e.toNat]?).getD 0)/\((set[e.toNat]?).getD 0)<32:=by
    cases hh:set[e.toNat]? with
    |none=>simp
    |some z=>exact hs z (List.mem_of_getElem? hh)
   exact ih _ (Ds h h2).2
 exact this es 0 (by omega)
theorem rS{a:eR}(h:rA a)(v:Int):0<=jX a v/\jX a v<32:=(Ds (oD h.2.2.2 _) (oD h.2.2.2 _)).2
theorem wrapU{x:Int}(h:0<=x/\x<32):IntKind.wrap .u64 x=((x.toNat:Nat):Int):=by
 rw[Int.toNat_of_nonneg h.1]
 show x%(2^64)=x
 exact Int.emod_eq_of_lt h.1 (by omega)
def jL(a:eR)(v:Int):Bool:=decide (((Ir (jX a v).toNat:Nat):Int)>=2)
def dQ(a:eR)(v:Int):Nat:=(dP a.out v).length+(dP a.inn v).length
theorem tD{a:eR}(h:rA a)(v:Int):dQ a v<=800:=by
 have h1:=qD (p:=fun r=>r.length<=400) (fun r hr=>(h.1 r hr).1) (by decide) v
 have h2:=qD (p:=fun r=>r.length<=400) (fun r hr=>(h.2.1 r hr).1) (by decide) v
 unfold dQ;omega
def Dt(f:FuncId)(ty:TypeId)(x:Nat×eR)(v:Value)(M:aA):Prop:= ∃s,v= .func (.func f) ⟨[s]⟩ ⟨[]⟩/\mR ty x s M
instance(f:FuncId)(ty:TypeId):AP (Dt f ty):=⟨fun{x y _ _} ⟨p,h1,h2⟩ ⟨q,k1,k2⟩=>by
 rw[h1] at k1
 simp only [Value.func.injEq,true_and,Array.mk.injEq,List.cons.injEq,and_true] at k1
 subst k1
 exact AP.uniq (R:=mR ty) h2 k2,fun hE ⟨p,h1,h2⟩=>⟨p,h1,AP.ext (R:=mR ty) hE h2⟩⟩
def Je(M0 M:aA)(S:Value)(l:List Int):Prop:=(S=eZ/\l= [])\/ ∃b,S=aC b 0 l.length l.length/\l≠ []/\M0.next<=b/\M.get b=some ⟨l.map i64,3,1,0,true⟩
theorem Je.keep{M0 M M':aA}{S:Value}{l:List Int}(h:Je M0 M S l)(hk: ∀id b,M0.next<=id->M.get id=some b->M'.get id=some b):Je M0 M' S l:=by
 rcases h with h|⟨b,h1,h2,h3,h4⟩
 ·exact .inl h
 ·exact .inr ⟨b,h1,h2,h3,hk _ _ h3 h4⟩
theorem Je.new{M0 M:aA}{S:Value}{l:List Int}{n:Nat}(h:Je M0 M S l)(hl:l.length<=9223372036854775807)(hn:n<=M0.next):aL l S (hid n M):=by
 rcases h with⟨rfl,rfl⟩|⟨b,rfl,_,h3,h4⟩
 ·exact aH.nil none
 ·exact aH.of_blk' (jV (by omega) h4) rfl (Ac l).symm (fun _ _=>rfl) hl
def dL(a:eR)(i:Nat):List Int:=(List.range i).filterMap fun v=>if jL a ((v:Nat):Int) then none else some ((v:Nat):Int)
theorem uU(a:eR)(i:Nat):dL a (i+1)=dL a i++(if jL a ((i:Nat):Int) then[] else[((i:Nat):Int)]):=by
 unfold dL
 rw[List.range_succ,List.filterMap_append]
 cases h:jL a ((i:Nat):Int)<;>simp [h]
theorem rY(a:eR)(i:Nat):(dL a i).length<=i:=by
 have:=List.length_filterMap_le (fun v:Nat=>if jL a ((v:Nat):Int) then none else some ((v:Nat):Int)) (List.range i)
 simpa [dL] using this
def uV(sz:List Nat)(v:Value)(M:aA):Prop:=aL (sz.map fun k=>((k:Nat):Int)) v M
theorem Ag: ∀{a b:List Nat},a.map (fun k=>((k:Nat):Int))=b.map (fun k=>((k:Nat):Int))->a=b
 | [],[],_=>rfl
 | [],_::_,h=>by simp at h
 |_::_,[],h=>by simp at h
 |x::a,y::b,h=>by
  simp only [List.map_cons,List.cons.injEq] at h
  have:x=y:=by omega
  rw[this,Ag h.2]
instance:AP uV:=⟨fun h k=>Ag (AP.uniq (R:=aL) h k),fun hE h=>AP.ext (R:=aL) hE h⟩
def Wj(x:Nat×Nat)(v:Value)(M:aA):Prop:=v=aC x.1 0 x.2 (x.2+1)/\ ∃cd,M.get x.1=some ⟨cd,3,1,0,true⟩
instance:AP Wj:=⟨fun{x y _ _} ⟨h,_⟩ ⟨k,_⟩=>by
 rw[h] at k
 simp only [Value.slice.injEq,Option.some.injEq,Addr.mk.injEq,and_true] at k
 obtain⟨a,b⟩:=x;obtain⟨c,d⟩:=y
 have h1:a=c:=k.1
 have h2:b=d:=k.2.1
 rw[h1,h2],fun hE ⟨h,cd,k⟩=>⟨h,cd,hE _ _ k⟩⟩
def oN(sz:List Nat)(d:Nat):Nat:=(sz[d]?).getD 0
def iD(a:eR)(vs:List Int)(j:Nat):Nat:=dQ a ((vs[j]?).getD 0)
def gT(a:eR)(vs:List Int):List Nat:=(List.range 801).map (iR (iD a vs) vs.length)
theorem yQ{a:eR}{vs:List Int}{d:Nat}(h:d<801):oN (gT a vs) d=iR (iD a vs) vs.length d:=by
 unfold oN gT
 rw[List.getElem?_map,List.getElem?_range h];rfl
def Oh(x:(Nat×Nat)×List Nat)(nx:Nat)(v:Value)(M:aA):Prop:= ∃E,v=aC E 0 x.2.length (x.2.length+1)/\nx<=E/\M.get E=some ⟨dN x.1.1 (oN x.2) (fun _=>0) x.2.length,22,1,0,true⟩
instance:AQ Oh:=⟨fun hE ⟨E,h1,h2,h3⟩=>⟨E,h1,h2,hE _ _ h3⟩⟩
def sB(a:eR)(vs:List Int):List Int:=((List.range 801).map (bk (iD a vs) (fun j=>(vs[j]?).getD 0) vs.length)).flatten
theorem sD(a:eR)(vs:List Int):(gT a vs).length=801:=by simp [gT]
theorem Ha{a:eR}(h:rA a)(vs:List Int):dS (oN (gT a vs)) 801=vs.length:=by
 rw[Dp (d:=iR (iD a vs) vs.length) fun v hv=>yQ hv]
 exact tL (iD a vs) 801 vs.length fun j _=>by have:=tD h ((vs[j]?).getD 0);unfold iD;omega
theorem Vn{α β:Type}(L:List Nat)(key:Nat->Nat)(item:Nat->α)(f:α->β)(k:Nat):(L.map (bk key (fun j=>f (item j)) k)).flatten=((L.map (bk key item k)).flatten).map f:=by
 induction L with
 |nil=>rfl
 |cons d L ih=>simp only [List.map_cons,List.flatten_cons,List.map_append,ih,Nd]
theorem Re{a:eR}{vs:List Int}{mem:List Value}(h:Bk (oN (gT a vs)) 801 (iD a vs) (fun j=>i64 ((vs[j]?).getD 0)) vs.length mem):mem=(sB a vs).map i64:=
 (h.whole fun v hv=>(yQ hv).symm).trans (Vn _ _ _ _ _)
theorem Yv{α:Type}(key:Nat->Nat)(a0:Nat->α)(k m:Nat):((List.range m).map (bk key a0 k)).flatten.length=dS (iR key k) m:=by
 induction m with
 |zero=>rfl
 |succ m ih=>
  rw[List.range_succ,List.map_append,List.flatten_append,List.length_append,ih]
  show _+(bk _ _ _ _++ []).length=dS _ m+iR _ _ m
  rw[List.append_nil,vM]
theorem Ap{a:eR}(ha:rA a)(vs:List Int):(sB a vs).length=vs.length:=
 (Yv _ _ _ _).trans (tL (iD a vs) 801 vs.length fun j _=>by have:=tD ha ((vs[j]?).getD 0);unfold iD;omega)
def bW(n:Nat)(l:List E4):List Int:=sB (iY n l) (dL (iY n l) n)
end Go.Am
end

noncomputable section
namespace Go.Am
open Go
def pRefA(ty:TypeId)(x:Nat×List E4)(v:Value)(M:aA):Prop:= ∃b L,v=pt b 0/\M.get b=some ⟨[i64 ((x.1:Nat):Int),L],ty,2,0,true⟩/\aU x.2 L M
instance(ty:TypeId):AP (pRefA ty):=⟨fun{x y _ _} ⟨b,L,h1,h2,h3⟩ ⟨c,K,k1,k2,k3⟩=>by
 rw[h1] at k1
 simp only [Value.pointer.injEq,Option.some.injEq,Addr.mk.injEq,and_true] at k1
 subst k1
 rw[h2] at k2
 simp only [Option.some.injEq,aQ.mk.injEq,List.cons.injEq,and_true] at k2
 obtain⟨e1,rfl⟩:=k2
 have e2:=AP.uniq (R:=aU) h3 k3
 obtain⟨a,b⟩:=x;obtain⟨c,d⟩:=y
 have h4:a=c:=by have:((a:Nat):Int)=((c:Nat):Int):=by simpa [i64] using e1
                 omega
 have h5:b=d:=e2
 rw[h4,h5],fun hE ⟨b,L,h1,h2,h3⟩=>⟨b,L,h1,hE _ _ h2,AP.ext (R:=aU) hE h3⟩⟩
def kY(k:uK)(l:List E4)(v:Int)(i:Nat):List Int:=(List.range i).filterMap fun j=>match l[j]? with
 |some e=>if dZ k e=v then some ((j:Nat):Int) else none
 |none=>none
theorem Lp(k:uK){l:List E4}(v:Int){i:Nat}{e:E4}(h:l[i]?=some e):kY k l v (i+1)=kY k l v i++(if dZ k e=v then[((i:Nat):Int)] else[]):=by
 unfold kY
 rw[List.range_succ,List.filterMap_append]
 by_cases hh:dZ k e=v<;>simp [h,hh]
theorem Dy(k:uK)(l:List E4)(v:Int)(i:Nat):(kY k l v i).length<=i:=by
 have:=List.length_filterMap_le (fun j:Nat=>match l[j]? with
  |some e=>if dZ k e=v then some ((j:Nat):Int) else none
  |none=>none) (List.range i)
 simpa [kY] using this
theorem qB{k:uK}{n:Nat}{l:List E4}{v:Int}(hv:0<=v/\v<(n:Int))(hb: ∀x∈l.map (dZ k),0<=x/\x<(n:Int)):dP (mE n (l.map (dZ k))) v=kY k l v l.length:=by
 unfold dP
 rw[if_pos hv.1]
 have h1:(mE n (l.map (dZ k)))[v.toNat]?=some (bk (eM (l.map (dZ k))) (fun j=>((j:Nat):Int)) (l.map (dZ k)).length v.toNat):=by
  unfold mE
  rw[List.getElem?_map,List.getElem?_range (by omega)];rfl
 rw[h1,Option.getD_some,List.length_map]
 have: ∀i,i<=l.length->bk (eM (l.map (dZ k))) (fun j=>((j:Nat):Int)) i v.toNat=kY k l v i:=fun i=>by
  induction i with
  |zero=>intro _;rfl
  |succ i ih=>
   intro hi
   have he:l[i]?=some l[i]:=List.getElem?_eq_getElem (by omega)
   rw[tU,Lp k v he,ih (by omega)]
   have hbi:=hb (dZ k l[i]) (List.mem_map.2 ⟨l[i],List.getElem_mem _,rfl⟩)
   have hk:eM (l.map (dZ k)) i=(dZ k l[i]).toNat:=by rw[Bj (by simp;omega)];simp
   rw[hk]
   by_cases hh:dZ k l[i]=v
   ·rw[if_pos hh,if_pos (by rw[hh])]
   ·rw[if_neg hh,if_neg (by omega)]
 exact this _ (Nat.le_refl _)
def jB(l:List E4)(v:Int)(i:Nat):Int:=(l.take i).foldl (fun s e=>if e.f=v\/e.t=v then Mk s (wF e.m) else s) 0
theorem uW{l:List E4}(v:Int){i:Nat}{e:E4}(h:l[i]?=some e):jB l v (i+1)=if e.f=v\/e.t=v then Mk (jB l v i) (wF e.m) else jB l v i:=by
 obtain⟨hi,rfl⟩:=List.getElem?_eq_some_iff.1 h
 unfold jB
 rw[List.take_succ_eq_append_getElem hi,List.foldl_append]
 rfl
def aAW(s:Int):Int:=IntKind.wrap .i64 (IntKind.wrap .i64 (IntKind.wrap .i64 (IntKind.wrap .i64 (IntKind.wrap .i64 ((0:Int)+Rr (s.fdiv (2^(0:Int).toNat)) (1:Int))+Rr (s.fdiv (2^(1:Int).toNat)) (1:Int))+Rr (s.fdiv (2^(2:Int).toNat)) (1:Int))+Rr (s.fdiv (2^(3:Int).toNat)) (1:Int))+Rr (s.fdiv (2^(4:Int).toNat)) (1:Int))
def Af(l:List E4)(v:Int):Bool:=decide (aAW (jB l v l.length)>=(2:Int))
def qO(l:List E4)(v:Int):Nat:=(kY .fr l v l.length).length+(kY .to l v l.length).length
def mS(l:List E4)(d i:Nat):List Int:=(List.range i).filterMap fun v=>if Af l ((v:Nat):Int)=false/\qO l ((v:Nat):Int)=d then some ((v:Nat):Int) else none
theorem Lo(l:List E4)(d i:Nat):mS l d (i+1)=mS l d i++(if Af l ((i:Nat):Int)=false/\qO l ((i:Nat):Int)=d then[((i:Nat):Int)] else[]):=by
 unfold mS
 rw[List.range_succ,List.filterMap_append]
 by_cases h:Af l ((i:Nat):Int)=false/\qO l ((i:Nat):Int)=d<;>simp [h]
def mX(l:List E4)(n d:Nat):List Int:=((List.range d).map fun k=>mS l k n).flatten
theorem xM(l:List E4)(n d:Nat):mX l n (d+1)=mX l n d++mS l d n:=by simp [mX,List.range_succ]
def Of(n:Nat)(l:List E4):List Int:=mX l n (2*l.length+1)
end Go.Am
end

noncomputable section
namespace Go.Am
open Go
theorem Io{x y:Int}(hx:0<=x/\x<32)(hy:0<=y/\y<32)(k:Nat):(Mk x y).toNat.testBit k=(x.toNat.testBit k||y.toNat.testBit k):=by
 rw[(Ds hx hy).1,Int.toNat_natCast,Nat.testBit_or]
theorem Ma(m:Int)(k:Nat):(wF m).toNat.testBit k=decide (m.toNat=k):=by
 unfold wF
 rw[Int.toNat_natCast,Nat.testBit_two_pow]
theorem Hb{set:List Int}(hs: ∀z∈set,0<=z/\z<32)(es:List Int)(k:Nat):(eW set es).toNat.testBit k=es.any fun j=>((set[j.toNat]?).getD 0).toNat.testBit k:=by
 unfold eW
 have hz: ∀e:Int,0<=((set[e.toNat]?).getD 0)/\((set[e.toNat]?).getD 0)<32:=fun e=>by
  cases hh:set[e.toNat]? with
  |none=>simp
  |some z=>exact hs z (List.mem_of_getElem? hh)
 have: ∀(es:List Int) (s:Int),0<=s/\s<32->(es.foldl (fun s i=>Mk s ((set[i.toNat]?).getD 0)) s).toNat.testBit k=(s.toNat.testBit k||es.any fun j=>((set[j.toNat]?).getD 0).toNat.testBit k):=fun es=>by
  induction es with
  |nil=>intro s _;simp
  |cons e es ih=>
   intro s h
   rw[List.foldl_cons,ih _ (Ds h (hz e)).2,Io h (hz e),List.any_cons,Bool.or_assoc]
 rw[this es 0 (by omega)]
 simp
theorem mC{l:List E4}(a0: ∀e∈l,Qt e)(v:Int): ∀i,i<=l.length->0<=jB l v i/\jB l v i<32
 |0,_=>by unfold jB;simp
 |i+1,h=>by
  have ih:=mC a0 v i (by omega)
  have he:l[i]?=some l[i]:=List.getElem?_eq_getElem (by omega)
  rw[uW v he]
  split
  ·exact(Ds ih (wG (a0 _ (List.getElem_mem _)).1 (a0 _ (List.getElem_mem _)).2)).2
  ·exact ih
theorem xO{l:List E4}(a0: ∀e∈l,Qt e)(v:Int)(k:Nat): ∀i,i<=l.length->((jB l v i).toNat.testBit k=true↔ ∃j e,j<i/\l[j]?=some e/\(e.f=v\/e.t=v)/\e.m.toNat=k)
 |0,_=>by unfold jB;simp
 |i+1,h=>by
  have ih:=xO a0 v k i (by omega)
  have he:l[i]?=some l[i]:=List.getElem?_eq_getElem (by omega)
  have hm:=a0 _ (List.getElem_mem (show i<l.length by omega))
  have hx:(∃j e,j<i+1/\l[j]?=some e/\(e.f=v\/e.t=v)/\e.m.toNat=k)↔(∃j e,j<i/\l[j]?=some e/\(e.f=v\/e.t=v)/\e.m.toNat=k)\/((l[i].f=v\/l[i].t=v)/\l[i].m.toNat=k):=by
   constructor
   ·rintro⟨j,e,h1,h2,h3⟩
    by_cases hj:j=i
    ·subst hj;rw[he] at h2;cases h2;exact .inr h3
    ·exact .inl ⟨j,e,by omega,h2,h3⟩
   ·rintro(⟨j,e,h1,h2,h3⟩|h3)
    ·exact⟨j,e,by omega,h2,h3⟩
    ·exact⟨i,_,by omega,he,h3⟩
  rw[hx,<-ih,uW v he]
  by_cases hv:l[i].f=v\/l[i].t=v
  ·rw[if_pos hv,Io (mC a0 v i (by omega)) (wG hm.1 hm.2),Ma]
   simp [hv]
  ·rw[if_neg hv]
   simp [hv]
theorem rZ{k:uK}{l:List E4}{v:Int}{i:Nat}{x:Int}:x∈kY k l v i↔ ∃j e,j<i/\l[j]?=some e/\dZ k e=v/\x=((j:Nat):Int):=by
 unfold kY
 simp only [List.mem_filterMap,List.mem_range]
 constructor
 ·rintro⟨j,h1,h2⟩
  cases he:l[j]? with
  |none=>rw[he] at h2;cases h2
  |some e=>
   rw[he] at h2
   simp only at h2
   by_cases hh:dZ k e=v
   ·rw[if_pos hh] at h2;exact⟨j,e,h1,he,hh,(Option.some.inj h2).symm⟩
   ·rw[if_neg hh] at h2;cases h2
 ·rintro⟨j,e,h1,h2,h3,rfl⟩
  exact⟨j,h1,by rw[h2];simp [h3]⟩
theorem Tn{n:Nat}{l:List E4}(h:eX ((n:Nat):Int) l=true){v:Int}(hv:0<=v/\v<(n:Int)):jX (iY n l) v=jB l v l.length:=by
 obtain⟨_,_,h3,h4⟩:=fX h
 have a1: ∀e∈l,Qt e:=fun e he=>(h4 e he).2.2.2.2
 have ha:=Lf h
 have r1:=rS ha v
 have r2:=mC a1 v l.length (Nat.le_refl _)
 have e1:dP (iY n l).out v=kY .fr l v l.length:=qB hv (mT h (by simp))
 have e2:dP (iY n l).inn v=kY .to l v l.length:=qB hv (mT h (by simp))
 have u1:=oD ha.2.2.2 (dP (iY n l).out v)
 have u2:=oD ha.2.2.2 (dP (iY n l).inn v)
 have key:(jX (iY n l) v).toNat=(jB l v l.length).toNat:=by
  apply Nat.eq_of_testBit_eq
  intro k
  rw[Bool.eq_iff_iff,xO a1 v k _ (Nat.le_refl _)]
  unfold jX
  rw[Io u1 u2,Hb ha.2.2.2,Hb ha.2.2.2,e1,e2]
  simp only [Bool.or_eq_true,List.any_eq_true]
  have a0: ∀(j:Nat) (e:E4),l[j]?=some e->(((iY n l).set[((j:Nat):Int).toNat]?).getD 0).toNat.testBit k=decide (e.m.toNat=k):=fun j e he=>by
   show(((l.map (dZ .set))[((j:Nat):Int).toNat]?).getD 0).toNat.testBit k=_
   rw[Int.toNat_natCast,List.getElem?_map,he]
   exact Ma e.m k
  constructor
  ·rintro(⟨x,hx,hb⟩|⟨x,hx,hb⟩)
   ·obtain⟨j,e,q1,q2,q3,rfl⟩:=rZ.1 hx
    rw[a0 j e q2] at hb
    exact⟨j,e,q1,q2,.inl q3,of_decide_eq_true hb⟩
   ·obtain⟨j,e,q1,q2,q3,rfl⟩:=rZ.1 hx
    rw[a0 j e q2] at hb
    exact⟨j,e,q1,q2,.inr q3,of_decide_eq_true hb⟩
  ·rintro⟨j,e,q1,q2,q3|q3,q4⟩
   ·exact .inl ⟨_,rZ.2 ⟨j,e,q1,q2,q3,rfl⟩,by rw[a0 j e q2];exact decide_eq_true q4⟩
   ·exact .inr ⟨_,rZ.2 ⟨j,e,q1,q2,q3,rfl⟩,by rw[a0 j e q2];exact decide_eq_true q4⟩
 omega
theorem Wt{s:Int}(h:0<=s/\s<32):decide (aAW s>=(2:Int))=decide (((Ir s.toNat:Nat):Int)>=2):=by
 have key: ∀k:Fin 32,decide (aAW ((k.val:Nat):Int)>=(2:Int))=decide (((Ir k.val:Nat):Int)>=2):=by decide+kernel
 have:=key ⟨s.toNat,by omega⟩
 simp only at this
 rw[Int.toNat_of_nonneg h.1] at this
 exact this
theorem Vx{n:Nat}{l:List E4}(h:eX ((n:Nat):Int) l=true){v:Int}(hv:0<=v/\v<(n:Int)):jL (iY n l) v=Af l v:=by
 unfold jL Af
 rw[Tn h hv]
 obtain⟨_,_,_,h4⟩:=fX h
 exact(Wt (mC (fun e he=>(h4 e he).2.2.2.2) v l.length (Nat.le_refl _))).symm
theorem Yp{n:Nat}{l:List E4}(h:eX ((n:Nat):Int) l=true){v:Int}(hv:0<=v/\v<(n:Int)):dQ (iY n l) v=qO l v:=by
 have e1:dP (iY n l).out v=kY .fr l v l.length:=qB hv (mT h (by simp))
 have e2:dP (iY n l).inn v=kY .to l v l.length:=qB hv (mT h (by simp))
 unfold dQ qO
 rw[e1,e2]
theorem Gu(l:List E4)(v:Int):qO l v<=2*l.length:=by
 have h1:=Dy .fr l v l.length
 have h2:=Dy .to l v l.length
 unfold qO;omega
theorem Px(f:Int->Nat)(vs:List Int)(d:Nat):bk (fun j=>f ((vs[j]?).getD 0)) (fun j=>(vs[j]?).getD 0) vs.length d=vs.filter fun x=>decide (f x=d):=by
 have: ∀i,i<=vs.length->bk (fun j=>f ((vs[j]?).getD 0)) (fun j=>(vs[j]?).getD 0) i d=(vs.take i).filter fun x=>decide (f x=d):=fun i=>by
  induction i with
  |zero=>intro _;rfl
  |succ i ih=>
   intro hi
   rw[tU,ih (by omega),List.take_succ_eq_append_getElem (by omega),List.filter_append,List.getElem?_eq_getElem (by omega)]
   simp only [Option.getD_some]
   by_cases hh:f vs[i]=d<;>simp [hh]
 rw[this _ (Nat.le_refl _),List.take_length]
theorem Cs{α β:Type}{f g:α->Option β}: ∀{l:List α},(∀x∈l,f x=g x)->l.filterMap f=l.filterMap g
 | [],_=>rfl
 |x::l,h=>by
  rw[List.filterMap_cons,List.filterMap_cons,h x (List.mem_cons_self ..),Cs fun y hy=>h y (List.mem_cons_of_mem _ hy)]
theorem Lh{n:Nat}{l:List E4}(h:eX ((n:Nat):Int) l=true):bW n l=Of n l:=by
 obtain⟨_,_,h3,_⟩:=fX h
 have hd: ∀d,bk (iD (iY n l) (dL (iY n l) n)) (fun j=>((dL (iY n l) n)[j]?).getD 0) (dL (iY n l) n).length d=mS l d n:=fun d=>by
  rw[show iD (iY n l) (dL (iY n l) n)=fun j=>dQ (iY n l) (((dL (iY n l) n)[j]?).getD 0) from rfl,Px]
  unfold dL mS
  rw[List.filter_filterMap]
  refine Cs fun v hv=> ?_
  have a1:0<=((v:Nat):Int)/\((v:Nat):Int)<(n:Int):=by have:=List.mem_range.1 hv;omega
  rw[Vx h a1]
  cases hl:Af l ((v:Nat):Int) with
  |true=>simp
  |false=>
   have:=Yp h a1
   by_cases hdd:qO l ((v:Nat):Int)=d
   ·simp [this,hdd,Option.filter]
   ·simp [this,hdd,Option.filter]
 have a0: ∀d,2*l.length<d->mS l d n= []:=fun d a3=>by
  unfold mS
  rw[List.filterMap_eq_nil_iff]
  intro v _
  have:=Gu l ((v:Nat):Int)
  rw[if_neg (by omega)]
 have a2: ∀k,mX l n (2*l.length+1+k)=mX l n (2*l.length+1):=fun k=>by
  induction k with
  |zero=>rfl
  |succ k ih=>rw[show 2*l.length+1+(k+1)=(2*l.length+1+k)+1 by omega,xM,ih,a0 _ (by omega),List.append_nil]
 unfold bW sB Of
 rw[<-a2 (801-(2*l.length+1)),show 2*l.length+1+(801-(2*l.length+1))=801 by omega]
 exact congrArg List.flatten (List.map_congr_left fun d _=>hd d)
end Go.Am
end
