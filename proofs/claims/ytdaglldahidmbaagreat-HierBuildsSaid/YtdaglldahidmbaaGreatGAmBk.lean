/-
  Package hier: each of its laws for every argument; no conditions. The last text states which.
-/
import Derived.Test.YtdaglldahidmbaaGreatGAmPw
set_option linter.unusedVariables false
set_option linter.unusedSimpArgs false
noncomputable section
namespace Go.Am
open Go
def eD(c:Nat->Nat):Nat->Nat
 |0=>0
 |v+1=>eD c v+c v
theorem Gn(c:Nat->Nat):∀{u v:Nat},u<=v->eD c u<=eD c v
 |u,0,h=>by have:u=0:=by omega
            subst this;exact Nat.le_refl _
 |u,v+1,h=>by
  by_cases e:u=v+1
  ·subst e;exact Nat.le_refl _
  ·have:=Gn c (show u<=v by omega);show eD c u<=eD c v+c v;omega
theorem oN(c:Nat->Nat){u v:Nat}(h:u<v):eD c u+c u<=eD c v:=Gn c (show u+1<=v from h)
theorem Dq{c d:Nat->Nat}:∀{n:Nat},(∀v,v<n->c v=d v)->eD c n=eD d n
 |0,_=>rfl
 |n+1,h=>by show eD c n+c n=eD d n+d n;rw[Dq (n:=n) fun v hv=>h v (by omega),h n (by omega)]
def bk{α:Type}(key:Nat->Nat)(item:Nat->α)(i v:Nat):List α:=(List.range i).filterMap fun j=>if key j=v then some (item j) else none
theorem uJ{α:Type}(key:Nat->Nat)(item:Nat->α)(i v:Nat):bk key item (i+1) v=bk key item i v++(if key i=v then[item i] else[]):=by unfold bk;rw[List.range_succ,List.filterMap_append];by_cases h:key i=v<;>simp [h]
theorem My{α β:Type}(key:Nat->Nat)(item:Nat->α)(f:α->β)(i v:Nat):(bk key item i v).map f=bk key (fun j=>f (item j)) i v:=by
 induction i with
 |zero=>rfl
 |succ i ih=>rw[uJ,uJ,List.map_append,ih];by_cases h:key i=v<;>simp [h]
def iY(key:Nat->Nat)(i v:Nat):Nat:=(bk key (fun _=>()) i v).length
theorem wC{α:Type}(key:Nat->Nat)(item:Nat->α)(i v:Nat):(bk key item i v).length=iY key i v:=by unfold iY;rw[<-My key item (fun _=>())];simp
theorem kH(key:Nat->Nat)(i v:Nat):iY key (i+1) v=iY key i v+(if key i=v then 1 else 0):=by unfold iY;rw[uJ,List.length_append];by_cases h:key i=v<;>simp [h]
theorem Kb(key:Nat->Nat)(v:Nat):∀{i j:Nat},i<=j->iY key i v<=iY key j v
 |i,0,h=>by have:i=0:=by omega
            subst this;exact Nat.le_refl _
 |i,j+1,h=>by
  by_cases e:i=j+1
  ·subst e;exact Nat.le_refl _
  ·have:=Kb key v (show i<=j by omega);rw[kH];omega
theorem Sd(key:Nat->Nat){i j:Nat}(h:i<j):iY key i (key i)<iY key j (key i):=by have h1:=Kb key (key i) (show i+1<=j from h);rw[kH,if_pos rfl] at h1;omega
theorem tZ(key:Nat->Nat)(n:Nat):∀(i:Nat),(∀j,j<i->key j<n)->eD (iY key i) n=i
 |0,_=>by
  have:∀n,eD (iY key 0) n=0:=fun n=>by
   induction n with
   |zero=>rfl
   |succ n ih=>show eD (iY key 0) n+iY key 0 n=0;rw[ih];rfl
  exact this n
 |i+1,h=>by
  have ih:=tZ key n i fun j hj=>h j (by omega)
  have hk:=h i (by omega);have:∀m,eD (iY key (i+1)) m=eD (iY key i) m+(if key i<m then 1 else 0):=fun m=>by
   induction m with
   |zero=>rfl
   |succ m ihm=>
    show eD (iY key (i+1)) m+iY key (i+1) m=eD (iY key i) m+iY key i m+_
    rw[ihm,kH]
    by_cases h1:key i<m
    ·rw[if_pos h1,if_neg (by omega),if_pos (by omega)];omega
    ·by_cases h2:key i=m
     ·rw[if_neg h1,if_pos h2,if_pos (by omega)];omega
     ·rw[if_neg h1,if_neg h2,if_neg (by omega)];omega
  rw[this,ih,if_pos hk]
structure Bk(c:Nat->Nat)(n:Nat)(key:Nat->Nat)(item:Nat->Value)(i:Nat)(mem:List Value):Prop where
 len:mem.length=eD c n
 le:∀v,v<n->iY key i v<=c v
 at_:∀v k,v<n->k<iY key i v->mem[eD c v+k]?=(bk key item i v)[k]?
theorem Bk.zero{c:Nat->Nat}{n:Nat}{key:Nat->Nat}{item:Nat->Value}{mem:List Value}(h:mem.length=eD c n):Bk c n key item 0 mem:=
 ⟨h,fun v _=>Nat.zero_le _,fun v k _ hk=>absurd hk (Nat.not_lt_zero _)⟩
theorem Bk.room{c:Nat->Nat}{n:Nat}{key:Nat->Nat}{item:Nat->Value}{i:Nat}{mem:List Value}(h:Bk c n key item i mem){v:Nat}(hv:v<n)(hc:iY key i v<c v):eD c v+iY key i v<mem.length:=by have:=oN c hv;rw[h.len];omega
theorem Bk.step{c:Nat->Nat}{n:Nat}{key:Nat->Nat}{a0:Nat->Value}{i:Nat}{mem:List Value}(h:Bk c n key a0 i mem)(hv:key i<n)(hc:iY key i (key i)<c (key i)):
  Bk c n key a0 (i+1) (splice mem (eD c (key i)+iY key i (key i)) [a0 i]):=by
 have a2:=h.room hv hc
 rw[jF _ _ _ a2]
 refine⟨by rw[List.length_set];exact h.len,fun v hvn=>?_,fun v k hvn hk=>?_⟩
 ·rw[kH];by_cases e:key i=v
  ·subst e;rw[if_pos rfl];omega
  ·rw[if_neg e];exact h.le v hvn
 ·rw[uJ];rw[kH] at hk;by_cases e:key i=v
  ·subst e;rw[if_pos rfl] at hk⊢;by_cases a1:k<iY key i (key i)
   ·rw[List.getElem?_set_ne (by omega),h.at_ _ _ hvn a1,List.getElem?_append_left (by rw[wC];exact a1)]
   ·have:k=iY key i (key i):=by omega
    subst this;rw[List.getElem?_set_self a2,List.getElem?_append_right (by rw[wC];exact Nat.le_refl _),wC,Nat.sub_self];rfl
  ·rw[if_neg e] at hk⊢;rw[List.append_nil];have hle:=h.le v hvn;have a3:eD c (key i)+iY key i (key i)≠eD c v+k:=by
    rcases Nat.lt_or_gt_of_ne e with h1|h1
    ·have:=oN c h1;omega
    ·have:=oN c h1;omega
   rw[List.getElem?_set_ne a3];exact h.at_ v k hvn (by omega)
theorem Bk.row{c:Nat->Nat}{n:Nat}{key:Nat->Nat}{a0:Nat->Value}{i:Nat}{mem:List Value}(h:Bk c n key a0 i mem){v:Nat}(hv:v<n):(mem.drop (eD c v)).take (iY key i v)=bk key a0 i v:=by
 apply List.ext_getElem?;intro k;by_cases hk:k<iY key i v
 ·rw[List.getElem?_take_of_lt hk,List.getElem?_drop,h.at_ v k hv hk]
 ·rw[List.getElem?_eq_none (by simp;omega),List.getElem?_eq_none (by rw[wC];omega)]
theorem Bk.whole{c:Nat->Nat}{n:Nat}{key:Nat->Nat}{a0:Nat->Value}{i:Nat}{mem:List Value}(h:Bk c n key a0 i mem)(hf:∀v,v<n->iY key i v=c v):mem=((List.range n).map (bk key a0 i)).flatten:=by
 have:∀m,m<=n->mem.take (eD c m)=((List.range m).map (bk key a0 i)).flatten:=fun m=>by
  induction m with
  |zero=>intro _;rfl
  |succ m ih=>
   intro hm
   have h1:=h.row (v:=m) (by omega)
   rw[hf m (by omega)] at h1
   show mem.take (eD c m+c m)=_
   rw[List.take_add,ih (by omega),h1,List.range_succ]
   simp
 rw[<-this n (Nat.le_refl _),<-h.len,List.take_length]
def Af(m:Nat)(c ln:Nat->Nat)(v:Nat):Value:=aC m (eD c v) (ln v) (c v+1)
def dZ(m:Nat)(c ln:Nat->Nat)(n:Nat):List Value:=(List.range n).map (Af m c ln)
theorem fY(m:Nat)(c ln:Nat->Nat)(n:Nat):(dZ m c ln n).length=n:=by simp [dZ]
theorem iE(m:Nat)(c ln:Nat->Nat){n v:Nat}(h:v<n):(dZ m c ln n)[v]?=some (Af m c ln v):=by simp [dZ,h]
theorem vN(m:Nat)(c:Nat->Nat)(key:Nat->Nat)(i n:Nat)(h:key i<n):splice (dZ m c (iY key i) n) (key i) [aC m (eD c (key i)) (iY key i (key i)+1) (c (key i)+1)]=dZ m c (iY key (i+1)) n:=by
 rw[jF _ _ _ (by rw[fY];exact h)];apply List.ext_getElem?;intro v;by_cases e:key i=v
 ·subst e;rw[List.getElem?_set_self (by rw[fY];exact h),iE _ _ _ h];unfold Af;rw[kH,if_pos rfl]
 ·rw[List.getElem?_set_ne e];by_cases hv:v<n
  ·rw[iE _ _ _ hv,iE _ _ _ hv];unfold Af;rw[kH,if_neg e];rfl
  ·rw[List.getElem?_eq_none (by rw[fY];omega),List.getElem?_eq_none (by rw[fY];omega)]
def cA(rs:List (List Int))(v:Value)(M:aB):Prop:=∃E c blk,v=aC E 0 rs.length c/\M.get E=some blk/\blk.esz=1/\blk.cs.length=rs.length/\∀(u:Nat) (r:List Int),rs[u]?=some r->∃x,blk.cs[u]?=some x/\aH r x M
instance:AP cA:=⟨fun{x y _ _} ⟨E,c,blk,h1,h2,_,_,h5⟩ ⟨E',c',blk',k1,k2,_,_,k5⟩=>by
 rw[h1] at k1;simp only [Value.slice.injEq,Option.some.injEq,Addr.mk.injEq,and_true] at k1;obtain⟨rfl,hl,_⟩:=k1;rw[h2] at k2;cases k2;apply List.ext_getElem?;intro u;by_cases hu:u<x.length
 ·obtain⟨a,a1,a2⟩:=h5 u x[u] (xAe hu);obtain⟨b,b1,b2⟩:=k5 u y[u] (xAe (by omega));rw[a1] at b1;cases b1;rw[xAe hu,xAe (by omega),AP.uniq (R:=aH) a2 b2]
 ·rw[List.getElem?_eq_none (by omega),List.getElem?_eq_none (by omega)],
 fun hE ⟨E,c,blk,h1,h2,h3,h4,h5⟩=>⟨E,c,blk,h1,hE _ _ h2,h3,h4,fun u r hr=>let ⟨x,a,b⟩:=h5 u r hr;⟨x,a,AP.ext (R:=aH) hE b⟩⟩⟩
theorem Ur{M:aB}{E m n k:Nat}{c:Nat->Nat}{key:Nat->Nat}{a0:Nat->Int}{mem:List Value}{tE tm wE wm:Nat}{qE qm:Bool}(hE:M.get E=some ⟨dZ m c (iY key k) n,tE,1,wE,qE⟩)(hm:M.get m=some ⟨mem,tm,1,wm,qm⟩)(h:Bk c n key (fun j=>i64 (a0 j)) k mem)(hk:k<=9223372036854775807)(cp:Nat):
  cA ((List.range n).map (bk key a0 k)) (aC E 0 n cp) M:=by
 refine⟨E,cp,_,by simp,hE,rfl,by rw[fY];simp,fun u r hr=>?_⟩
 have hu:u<n:=by
  have:=(xAg.1 hr).1;simpa using this
 simp [hu] at hr
 subst hr
 refine⟨_,iE _ _ _ hu,?_⟩
 unfold Af
 have hb:(bk key a0 k u).map i64=bk key (fun j=>i64 (a0 j)) k u:=My _ _ _ _ _
 have h1:=h.row hu
 have a1:(bk key a0 k u).length=iY key k u:=wC _ _ _ _
 have hle:=h.le u hu
 have hnx:=oN c hu
 rw[<-a1]
 refine aG.of_blk (blk:=⟨mem,tm,1,wm,qm⟩) (pre:=mem.take (eD c u)) (post:=mem.drop (eD c u+iY key k u)) hm ?_ ?_ (fun _ _=>rfl) rfl ?_
 ·show mem=_;rw[vG,hb,<-h1,List.append_assoc,<-List.drop_drop,List.take_append_drop,List.take_append_drop]
 ·rw[List.length_take,h.len];omega
 ·rw[a1];have:∀i,iY key i u<=i:=fun i=>by
   induction i with
   |zero=>exact Nat.le_refl _
   |succ i ih=>rw[kH];split<;>omega
  exact Nat.le_trans (this k) hk
def eV(ends:List Int)(j:Nat):Nat:=((ends[j]?).getD 0).toNat
theorem Bn{ends:List Int}{j:Nat}(h:j<ends.length):eV ends j=(ends[j]).toNat:=by unfold eV;rw[xAe h];rfl
theorem Bo{ends:List Int}{n:Nat}(hb:∀x∈ends,0<=x/\x<(n:Int)){j:Nat}(h:j<ends.length):eV ends j<n:=by rw[Bn h];have:=hb _ (List.getElem_mem h);omega
def hZ(key:Nat->Nat)(i n:Nat):List Value:=(List.range n).map fun v=>i64 ((iY key i v:Nat):Int)
theorem jC(key:Nat->Nat)(i n:Nat):(hZ key i n).length=n:=by simp [hZ]
theorem jB(key:Nat->Nat)(i:Nat){n v:Nat}(h:v<n):(hZ key i n)[v]?=some (i64 ((iY key i v:Nat):Int)):=by simp [hZ,h]
theorem vE(key:Nat->Nat)(n:Nat):hZ key 0 n=List.replicate n (i64 0):=by
 apply List.ext_getElem?;intro v;by_cases hv:v<n
 ·rw[jB _ _ hv,List.getElem?_replicate,if_pos hv];rfl
 ·rw[List.getElem?_eq_none (by rw[jC];omega),List.getElem?_eq_none (by simp;omega)]
theorem vD(key:Nat->Nat){i n:Nat}(h:key i<n):splice (hZ key i n) (key i) [i64 ((iY key i (key i)+1:Nat):Int)]=hZ key (i+1) n:=by
 rw[jF _ _ _ (by rw[jC];exact h)];apply List.ext_getElem?;intro v;by_cases e:key i=v
 ·subst e;rw[List.getElem?_set_self (by rw[jC];exact h),jB _ _ h,kH,if_pos rfl]
 ·rw[List.getElem?_set_ne e];by_cases hv:v<n
  ·rw[jB _ _ hv,jB _ _ hv,kH,if_neg e];rfl
  ·rw[List.getElem?_eq_none (by rw[jC];omega),List.getElem?_eq_none (by rw[jC];omega)]
theorem Cm(key:Nat->Nat)(i v:Nat):iY key i v<=i:=by
 induction i with
 |zero=>exact Nat.le_refl _
 |succ i ih=>rw[kH];split<;>omega
theorem Md{i:Nat}(h:i<1099511627776):IntKind.wrap .i64 ((i:Nat):Int)=((i:Nat):Int):=Go.Am.fU (by omega) (by omega)
theorem yK{i j:Nat}(h:i+j<1099511627776):IntKind.wrap .i64 (((i:Nat):Int)+((j:Nat):Int))=((i+j:Nat):Int):=by rw[<-Md h];congr 1
def mM(n:Nat)(ends:List Int):List (List Int):=(List.range n).map (bk (eV ends) (fun j=>((j:Nat):Int)) ends.length)
theorem Ed(n:Nat)(ends:List Int):(mM n ends).length=n:=by simp [mM]
def Tz(x:Nat×List Int)(nx:Nat)(v:Value)(M:aB):Prop:=∃E D,v=aC E 0 x.1 (x.1+1)/\nx<=E/\nx<=D/\D≠E/\M.get E=some ⟨dZ D (iY (eV x.2) x.2.length) (fun _=>0) x.1,22,1,0,true⟩/\M.get D=some ⟨List.replicate x.2.length (i64 0),3,1,0,true⟩
instance:AQ Tz:=⟨fun hE ⟨E,D,h1,h2,h3,h4,h5,h6⟩=>⟨E,D,h1,h2,h3,h4,hE _ _ h5,hE _ _ h6⟩⟩
structure fC where
 out:List (List Int)
 inn:List (List Int)
 to:List Int
 set:List Int
def jX(n:Nat)(l:List E4):fC:=⟨mM n (l.map (dW .fr)),mM n (l.map (dW .to)),l.map (dW .to),l.map (dW .set)⟩
def eY(ty:TypeId)(a:fC)(v:Value)(M:aB):Prop:=∃b o i t s,v=pt b 0/\M.get b=some ⟨[o,i,t,s],ty,4,0,true⟩/\cA a.out o M/\cA a.inn i M/\aH a.to t M/\aH a.set s M
instance(ty:TypeId):AP (eY ty):=⟨fun{x y _ _} ⟨b,o,i,t,s,h1,h2,h3,h4,h5,h6⟩ ⟨b',o',i',t',s',k1,k2,k3,k4,k5,k6⟩=>by
 rw[h1] at k1;simp only [Value.pointer.injEq,Option.some.injEq,Addr.mk.injEq,and_true] at k1;subst k1;rw[h2] at k2;simp only [Option.some.injEq,aR.mk.injEq,List.cons.injEq,and_true,true_and] at k2;obtain⟨rfl,rfl,rfl,rfl⟩:=k2;have e1:=AP.uniq (R:=cA) h3 k3;have e2:=AP.uniq (R:=cA) h4 k4;have e3:=AP.uniq (R:=aH) h5 k5;have e4:=AP.uniq (R:=aH) h6 k6;cases x;cases y;simp_all,
 fun hE ⟨b,o,i,t,s,h1,h2,h3,h4,h5,h6⟩=>⟨b,o,i,t,s,h1,hE _ _ h2,AP.ext (R:=cA) hE h3,AP.ext (R:=cA) hE h4,AP.ext (R:=aH) hE h5,AP.ext (R:=aH) hE h6⟩⟩
theorem Fw{x n:Int}:gH x n=true↔0<=x/\x<n:=by simp [gH]
theorem eM{n:Int}{l:List E4}(h:fF n l=true):1<=n/\n<=60/\l.length<=400/\∀e∈l,0<=e.f/\e.f<n/\0<=e.t/\e.t<n/\Eu e:=by simp only [fF,iB,Bool.and_eq_true,Bool.not_eq_true',Bool.or_eq_false_iff,Bool.not_eq_false',decide_eq_true_eq,decide_eq_false_iff_not,List.all_eq_true] at h;obtain⟨⟨⟨h1,h2⟩,h3⟩,h4⟩:=h;refine⟨h1,h2,by omega,fun e he=>?_⟩;have:=h4 e he;simp only [iW,Bool.and_eq_true,Fw,decide_eq_true_eq] at this;obtain⟨⟨⟨⟨h5,h6⟩,h7⟩,h8⟩,h9⟩:=this;exact⟨h5.1,h5.2,h6.1,h6.2,h7⟩
theorem nB{n:Int}{l:List E4}(h:fF n l=true){k:uX}(hk:k≠ .set):∀x∈l.map (dW k),0<=x/\x<n:=fun x hx=>by
 obtain⟨e,he,rfl⟩:=List.mem_map.1 hx;obtain⟨_,_,_,hh⟩:=eM h;have:=hh e he;cases k
 ·exact⟨this.2.2.1,this.2.2.2.1⟩
 ·exact⟨this.1,this.2.1⟩
 ·exact absurd rfl hk
def fR(rs:List (List Int))(v:Int):List Int:=if 0<=v then(rs[v.toNat]?).getD [] else[]
theorem tW{P:Program}{rs:List (List Int)}{E n c u:Nat}{r:List Int}{M:aB}{ty:TypeId}(h:cA rs (aC E 0 n c) M)(hu:rs[u]?=some r)(hd:(P.underlying ty).map eC=some false):∃a c',bA P ty ⟨E,0+u*1,none⟩ M=some (.slice a r.length c')/\aH r (.slice a r.length c') M:=by obtain⟨E',c0,blk,h1,h2,_,_,h5⟩:=h;simp only [Value.slice.injEq,Option.some.injEq,Addr.mk.injEq,and_true] at h1;obtain⟨rfl,_,_⟩:=h1;obtain⟨x,hx,hp⟩:=h5 u r hu;obtain⟨a,c',rfl⟩:=aG.form hp;exact⟨a,c',aY (a:=⟨E,0+u*1,none⟩) hd h2 (by simpa using hx),hp⟩
theorem gM{rs:List (List Int)}{v:Value}{M:aB}(h:cA rs v M):∃E c,v=aC E 0 rs.length c:=by obtain⟨E,c,blk,h1,_⟩:=h;exact⟨E,c,h1⟩
def rJ(a:fC):Prop:=(∀r∈a.out,r.length<=400/\∀j∈r,0<=j/\j<(a.set.length:Int))/\(∀r∈a.inn,r.length<=400/\∀j∈r,0<=j/\j<(a.set.length:Int))/\a.set.length<=400/\∀z∈a.set,0<=z/\z<32
theorem Yb{α:Type}{key:Nat->Nat}{a0:Nat->α}{i v:Nat}{x:α}:x∈bk key a0 i v↔ ∃j,j<i/\key j=v/\a0 j=x:=by
 unfold bk;simp only [List.mem_filterMap,List.mem_range];constructor
 ·rintro⟨j,h1,h2⟩;by_cases h:key j=v
  ·rw[if_pos h] at h2;exact⟨j,h1,h,Option.some.inj h2⟩
  ·rw[if_neg h] at h2;cases h2
 ·rintro⟨j,h1,h2,rfl⟩;exact⟨j,h1,by rw[if_pos h2]⟩
theorem Gt{n:Nat}{ends:List Int}(h:ends.length<=400):∀r∈mM n ends,r.length<=400/\∀j∈r,0<=j/\j<(ends.length:Int):=fun r hr=>by
 obtain⟨v,_,rfl⟩:=List.mem_map.1 hr;refine⟨by rw[wC];exact Nat.le_trans (Cm _ _ _) h,fun j hj=>?_⟩;obtain⟨k,h1,_,rfl⟩:=Yb.1 hj;omega
theorem wV{m:Int}(h0:0<=m)(h5:m<5):0<=zN m/\zN m<32:=by
 have:m=0\/m=1\/m=2\/m=3\/m=4:=by omega
 rcases this with rfl|rfl|rfl|rfl|rfl<;>decide
theorem Lc{n:Nat}{l:List E4}(h:fF ((n:Nat):Int) l=true):rJ (jX n l):=by
 obtain⟨_,_,h3,h4⟩:=eM h;have e1:((l.map (dW .set)).length:Int)=((l.map (dW .fr)).length:Int):=by simp
 have e2:((l.map (dW .set)).length:Int)=((l.map (dW .to)).length:Int):=by simp
 refine⟨?_,?_,by simpa [jX] using h3,fun z hz=>?_⟩
 ·show∀r∈mM n _,r.length<=400/\∀j∈r,0<=j/\j<((l.map (dW .set)).length:Int);rw[e1];exact Gt (by simpa using h3)
 ·show∀r∈mM n _,r.length<=400/\∀j∈r,0<=j/\j<((l.map (dW .set)).length:Int);rw[e2];exact Gt (by simpa using h3)
 ·obtain⟨e,he,rfl⟩:=List.mem_map.1 hz;exact wV (h4 e he).2.2.2.2.1 (h4 e he).2.2.2.2.2
theorem qN{rs:List (List Int)}{p:List Int->Prop}(h:∀r∈rs,p r)(h0:p [])(v:Int):p (fR rs v):=by
 unfold fR;split
 ·cases hh:rs[v.toNat]? with
  |none=>exact h0
  |some r=>exact h r (xAh hh)
 ·exact h0
def gZ(set es:List Int):Int:=es.foldl (fun s i=>Bh s ((set[i.toNat]?).getD 0)) 0
def mH(a:fC)(v:Int):Int:=Bh (gZ a.set (fR a.out v)) (gZ a.set (fR a.inn v))
def nA(ty:TypeId)(x:Nat×fC)(v:Value)(M:aB):Prop:=∃p,v= .agg ⟨[i64 ((x.1:Nat):Int),p]⟩/\eY ty x.2 p M
instance(ty:TypeId):AP (nA ty):=⟨fun{x y _ _} ⟨p,h1,h2⟩ ⟨q,k1,k2⟩=>by
 rw[h1] at k1;simp only [Value.agg.injEq,Array.mk.injEq,List.cons.injEq,and_true] at k1;obtain⟨e1,rfl⟩:=k1;have e2:=AP.uniq (R:=eY ty) h2 k2;obtain⟨a,b⟩:=x;obtain⟨c,d⟩:=y
 have h3:a=c:=by have:((a:Nat):Int)=((c:Nat):Int):=by simpa [i64] using e1
                 omega
 have h4:b=d:=e2;rw[h3,h4],fun hE ⟨p,h1,h2⟩=>⟨p,h1,AP.ext (R:=eY ty) hE h2⟩⟩
def pU(k:Nat)(v:Value)(_:aB):Prop:=v= .int .u64 ((k:Nat):Int)
instance:AP pU:=⟨fun h k=>by unfold pU at h k;rw[h] at k;simp at k;omega,fun _ h=>h⟩
def Le(n:Nat):Nat:=n%2+n/2%2+n/4%2+n/8%2+n/16%2
theorem Ds{x y:Int}(hx:0<=x/\x<32)(hy:0<=y/\y<32):Bh x y=((x.toNat|||y.toNat:Nat):Int)/\0<=Bh x y/\Bh x y<32:=by have h:=Wh (x:=x.toNat) (y:=y.toNat) (by omega) (by omega);rw[Int.toNat_of_nonneg hx.1,Int.toNat_of_nonneg hy.1] at h;have h2:x.toNat|||y.toNat<2^5:=Nat.or_lt_two_pow (by omega) (by omega);exact⟨h,by omega,by omega⟩
theorem oK{set:List Int}(hs:∀z∈set,0<=z/\z<32)(es:List Int):0<=gZ set es/\gZ set es<32:=by
 unfold gZ;have:∀(es:List Int) (s:Int),0<=s/\s<32->0<=es.foldl (fun s i=>Bh s ((set[i.toNat]?).getD 0)) s/\es.foldl (fun s i=>Bh s ((set[i.toNat]?).getD 0)) s<32:=fun es=>by
  induction es with
  |nil=>intro s h;exact h
  |cons e es ih=>
   intro s h
   have h2:0<=((set[e.toNat]?).getD 0)/\((set[e.toNat]?).getD 0)<32:=by
    cases hh:set[e.toNat]? with
    |none=>simp
    |some z=>exact hs z (xAh hh)
   exact ih _ (Ds h h2).2
 exact this es 0 (by omega)
theorem sE{a:fC}(h:rJ a)(v:Int):0<=mH a v/\mH a v<32:=(Ds (oK h.2.2.2 _) (oK h.2.2.2 _)).2
theorem wrapU{x:Int}(h:0<=x/\x<32):IntKind.wrap .u64 x=((x.toNat:Nat):Int):=by rw[Int.toNat_of_nonneg h.1];show x%(2^64)=x;exact Int.emod_eq_of_lt h.1 (by omega)
def lF(a:fC)(v:Int):Bool:=decide (((Le (mH a v).toNat:Nat):Int)>=2)
def fD(a:fC)(v:Int):Nat:=(fR a.out v).length+(fR a.inn v).length
theorem tR{a:fC}(h:rJ a)(v:Int):fD a v<=800:=by have h1:=qN (p:=fun r=>r.length<=400) (fun r hr=>(h.1 r hr).1) (by decide) v;have h2:=qN (p:=fun r=>r.length<=400) (fun r hr=>(h.2.1 r hr).1) (by decide) v;unfold fD;omega
def Du(f:FuncId)(ty:TypeId)(x:Nat×fC)(v:Value)(M:aB):Prop:=∃s,v= .func (.func f) ⟨[s]⟩ ⟨[]⟩/\nA ty x s M
instance(f:FuncId)(ty:TypeId):AP (Du f ty):=⟨fun{x y _ _} ⟨p,h1,h2⟩ ⟨q,k1,k2⟩=>by
 rw[h1] at k1;simp only [Value.func.injEq,true_and,Array.mk.injEq,List.cons.injEq,and_true] at k1;subst k1;exact AP.uniq (R:=nA ty) h2 k2,fun hE ⟨p,h1,h2⟩=>⟨p,h1,AP.ext (R:=nA ty) hE h2⟩⟩
def pT(M0 M:aB)(S:Value)(l:List Int):Prop:=(S=dP/\l=[])\/∃b,S=aC b 0 l.length l.length/\l≠ []/\M0.next<=b/\M.get b=some ⟨l.map i64,3,1,0,true⟩
theorem pT.keep{M0 M M':aB}{S:Value}{l:List Int}(h:pT M0 M S l)(hk:∀id b,M0.next<=id->M.get id=some b->M'.get id=some b):pT M0 M' S l:=by
 rcases h with h|⟨b,h1,h2,h3,h4⟩
 ·exact .inl h
 ·exact .inr ⟨b,h1,h2,h3,hk _ _ h3 h4⟩
theorem pT.new{M0 M:aB}{S:Value}{l:List Int}{n:Nat}(h:pT M0 M S l)(hl:l.length<=9223372036854775807)(hn:n<=M0.next):aH l S (hid n M):=by
 rcases h with⟨rfl,rfl⟩|⟨b,rfl,_,h3,h4⟩
 ·exact aG.nil none
 ·exact aG.of_blk' (gJ (by omega) h4) rfl (vG l).symm (fun _ _=>rfl) hl
def eO(a:fC)(i:Nat):List Int:=(List.range i).filterMap fun v=>if lF a ((v:Nat):Int) then none else some ((v:Nat):Int)
theorem vK(a:fC)(i:Nat):eO a (i+1)=eO a i++(if lF a ((i:Nat):Int) then[] else[((i:Nat):Int)]):=by unfold eO;rw[List.range_succ,List.filterMap_append];cases h:lF a ((i:Nat):Int)<;>simp [h]
theorem sG(a:fC)(i:Nat):(eO a i).length<=i:=by have:=List.length_filterMap_le (fun v:Nat=>if lF a ((v:Nat):Int) then none else some ((v:Nat):Int)) (List.range i);simpa [eO] using this
def vL(sz:List Nat)(v:Value)(M:aB):Prop:=aH (sz.map fun k=>((k:Nat):Int)) v M
theorem Aj:∀{a b:List Nat},a.map (fun k=>((k:Nat):Int))=b.map (fun k=>((k:Nat):Int))->a=b
 | [],[],_=>rfl
 | [],_::_,h=>by simp at h
 |_::_,[],h=>by simp at h
 |x::a,y::b,h=>by
  simp only [List.map_cons,List.cons.injEq] at h;have:x=y:=by omega
  rw[this,Aj h.2]
instance:AP vL:=⟨fun h k=>Aj (AP.uniq (R:=aH) h k),fun hE h=>AP.ext (R:=aH) hE h⟩
def Wi(x:Nat×Nat)(v:Value)(M:aB):Prop:=v=aC x.1 0 x.2 (x.2+1)/\∃cd,M.get x.1=some ⟨cd,3,1,0,true⟩
instance:AP Wi:=⟨fun{x y _ _} ⟨h,_⟩ ⟨k,_⟩=>by
 rw[h] at k;simp only [Value.slice.injEq,Option.some.injEq,Addr.mk.injEq,and_true] at k;obtain⟨a,b⟩:=x;obtain⟨c,d⟩:=y;have h1:a=c:=k.1;have h2:b=d:=k.2.1;rw[h1,h2],fun hE ⟨h,cd,k⟩=>⟨h,cd,hE _ _ k⟩⟩
def oX(sz:List Nat)(d:Nat):Nat:=(sz[d]?).getD 0
def iJ(a:fC)(vs:List Int)(j:Nat):Nat:=fD a ((vs[j]?).getD 0)
def gY(a:fC)(vs:List Int):List Nat:=(List.range 801).map (iY (iJ a vs) vs.length)
theorem yV{a:fC}{vs:List Int}{d:Nat}(h:d<801):oX (gY a vs) d=iY (iJ a vs) vs.length d:=by unfold oX gY;rw[List.getElem?_map,List.getElem?_range h];rfl
def Od(x:(Nat×Nat)×List Nat)(nx:Nat)(v:Value)(M:aB):Prop:=∃E,v=aC E 0 x.2.length (x.2.length+1)/\nx<=E/\M.get E=some ⟨dZ x.1.1 (oX x.2) (fun _=>0) x.2.length,22,1,0,true⟩
instance:AQ Od:=⟨fun hE ⟨E,h1,h2,h3⟩=>⟨E,h1,h2,hE _ _ h3⟩⟩
def sK(a:fC)(vs:List Int):List Int:=((List.range 801).map (bk (iJ a vs) (fun j=>(vs[j]?).getD 0) vs.length)).flatten
theorem sM(a:fC)(vs:List Int):(gY a vs).length=801:=by simp [gY]
theorem Gw{a:fC}(h:rJ a)(vs:List Int):eD (oX (gY a vs)) 801=vs.length:=by rw[Dq (d:=iY (iJ a vs) vs.length) fun v hv=>yV hv];exact tZ (iJ a vs) 801 vs.length fun j _=>by have:=tR h ((vs[j]?).getD 0);unfold iJ;omega
theorem Vp{α β:Type}(L:List Nat)(key:Nat->Nat)(item:Nat->α)(f:α->β)(k:Nat):(L.map (bk key (fun j=>f (item j)) k)).flatten=((L.map (bk key item k)).flatten).map f:=by
 induction L with
 |nil=>rfl
 |cons d L ih=>simp only [List.map_cons,List.flatten_cons,List.map_append,ih,My]
theorem Rc{a:fC}{vs:List Int}{mem:List Value}(h:Bk (oX (gY a vs)) 801 (iJ a vs) (fun j=>i64 ((vs[j]?).getD 0)) vs.length mem):mem=(sK a vs).map i64:=
 (h.whole fun v hv=>(yV hv).symm).trans (Vp _ _ _ _ _)
theorem Yt{α:Type}(key:Nat->Nat)(a0:Nat->α)(k m:Nat):((List.range m).map (bk key a0 k)).flatten.length=eD (iY key k) m:=by
 induction m with
 |zero=>rfl
 |succ m ih=>
  rw[List.range_succ,List.map_append,List.flatten_append,List.length_append,ih]
  show _+(bk _ _ _ _++ []).length=eD _ m+iY _ _ m
  rw[List.append_nil,wC]
theorem Aw{a:fC}(ha:rJ a)(vs:List Int):(sK a vs).length=vs.length:=
 (Yt _ _ _ _).trans (tZ (iJ a vs) 801 vs.length fun j _=>by have:=tR ha ((vs[j]?).getD 0);unfold iJ;omega)
def dA(n:Nat)(l:List E4):List Int:=sK (jX n l) (eO (jX n l) n)
end Go.Am
end

noncomputable section
namespace Go.Am
open Go
def eT(ty:TypeId)(x:Nat×List E4)(v:Value)(M:aB):Prop:=∃b L,v=pt b 0/\M.get b=some ⟨[i64 ((x.1:Nat):Int),L],ty,2,0,true⟩/\aQ x.2 L M
instance(ty:TypeId):AP (eT ty):=⟨fun{x y _ _} ⟨b,L,h1,h2,h3⟩ ⟨c,K,k1,k2,k3⟩=>by
 rw[h1] at k1;simp only [Value.pointer.injEq,Option.some.injEq,Addr.mk.injEq,and_true] at k1;subst k1;rw[h2] at k2;simp only [Option.some.injEq,aR.mk.injEq,List.cons.injEq,and_true] at k2;obtain⟨e1,rfl⟩:=k2;have e2:=AP.uniq (R:=aQ) h3 k3;obtain⟨a,b⟩:=x;obtain⟨c,d⟩:=y
 have h4:a=c:=by have:((a:Nat):Int)=((c:Nat):Int):=by simpa [i64] using e1
                 omega
 have h5:b=d:=e2;rw[h4,h5],fun hE ⟨b,L,h1,h2,h3⟩=>⟨b,L,h1,hE _ _ h2,AP.ext (R:=aQ) hE h3⟩⟩
def cP(k:uX)(l:List E4)(v:Int)(i:Nat):List Int:=(List.range i).filterMap fun j=>match l[j]? with
 |some e=>if dW k e=v then some ((j:Nat):Int) else none
 |none=>none
theorem uD(k:uX){l:List E4}(v:Int){i:Nat}{e:E4}(h:l[i]?=some e):cP k l v (i+1)=cP k l v i++(if dW k e=v then[((i:Nat):Int)] else[]):=by unfold cP;rw[List.range_succ,List.filterMap_append];by_cases hh:dW k e=v<;>simp [h,hh]
theorem kP(k:uX)(l:List E4)(v:Int)(i:Nat):(cP k l v i).length<=i:=by
 have:=List.length_filterMap_le (fun j:Nat=>match l[j]? with
  |some e=>if dW k e=v then some ((j:Nat):Int) else none
  |none=>none) (List.range i)
 simpa [cP] using this
theorem qM{k:uX}{n:Nat}{l:List E4}{v:Int}(hv:0<=v/\v<(n:Int))(hb:∀x∈l.map (dW k),0<=x/\x<(n:Int)):fR (mM n (l.map (dW k))) v=cP k l v l.length:=by
 unfold fR;rw[if_pos hv.1];have h1:(mM n (l.map (dW k)))[v.toNat]?=some (bk (eV (l.map (dW k))) (fun j=>((j:Nat):Int)) (l.map (dW k)).length v.toNat):=by
  unfold mM;rw[List.getElem?_map,List.getElem?_range (by omega)];rfl
 rw[h1,Option.getD_some,List.length_map];have:∀i,i<=l.length->bk (eV (l.map (dW k))) (fun j=>((j:Nat):Int)) i v.toNat=cP k l v i:=fun i=>by
  induction i with
  |zero=>intro _;rfl
  |succ i ih=>
   intro hi
   have he:l[i]?=some l[i]:=xAe (by omega)
   rw[uJ,uD k v he,ih (by omega)]
   have hbi:=hb (dW k l[i]) (List.mem_map.2 ⟨l[i],List.getElem_mem _,rfl⟩)
   have hk:eV (l.map (dW k)) i=(dW k l[i]).toNat:=by rw[Bn (by simp;omega)];simp
   rw[hk]
   by_cases hh:dW k l[i]=v
   ·rw[if_pos hh,if_pos (by rw[hh])]
   ·rw[if_neg hh,if_neg (by omega)]
 exact this _ (Nat.le_refl _)
def aS(l:List E4)(v:Int)(i:Nat):Int:=(l.take i).foldl (fun s e=>if e.f=v\/e.t=v then Bh s (zN e.m) else s) 0
theorem qV{l:List E4}(v:Int){i:Nat}{e:E4}(h:l[i]?=some e):aS l v (i+1)=if e.f=v\/e.t=v then Bh (aS l v i) (zN e.m) else aS l v i:=by obtain⟨hi,rfl⟩:=xAg.1 h;unfold aS;rw[List.take_succ_eq_append_getElem hi,List.foldl_append];rfl
def sumB(s:Int):Int:=IntKind.wrap .i64 (IntKind.wrap .i64 (IntKind.wrap .i64 (IntKind.wrap .i64 (IntKind.wrap .i64 ((0:Int)+gS (s.fdiv (2^(0:Int).toNat)) (1:Int))+gS (s.fdiv (2^(1:Int).toNat)) (1:Int))+gS (s.fdiv (2^(2:Int).toNat)) (1:Int))+gS (s.fdiv (2^(3:Int).toNat)) (1:Int))+gS (s.fdiv (2^(4:Int).toNat)) (1:Int))
def rF(l:List E4)(v:Int):Bool:=decide (sumB (aS l v l.length)>=(2:Int))
def gT(l:List E4)(n:Nat):List Bool:=(List.range n).map fun v=>rF l ((v:Nat):Int)
theorem Kp(l:List E4)(i:Nat):gT l (i+1)=gT l i++ [rF l ((i:Nat):Int)]:=by simp [gT,List.range_succ]
def Ri(M0 M:aB)(S:Value)(l:List Bool):Prop:=(S=dP/\l=[])\/∃b,S=aC b 0 l.length l.length/\l≠ []/\M0.next<=b/\M.get b=some ⟨l.map .bool,4,1,0,true⟩
theorem Ri.new{M0 M:aB}{S:Value}{l:List Bool}{n:Nat}(h:Ri M0 M S l)(hl:l.length<=9223372036854775807)(hn:n<=M0.next):sH l S (hid n M):=by
 rcases h with⟨rfl,rfl⟩|⟨b,rfl,_,h3,h4⟩
 ·exact aG.nil none
 ·exact aG.of_blk' (gJ (by omega) h4) rfl (vG l).symm (fun _ _=>rfl) hl
def mK(l:List E4)(v:Int):Nat:=(cP .fr l v l.length).length+(cP .to l v l.length).length
def iM(l:List E4)(d i:Nat):List Int:=(List.range i).filterMap fun v=>if rF l ((v:Nat):Int)=false/\mK l ((v:Nat):Int)=d then some ((v:Nat):Int) else none
theorem Aq(l:List E4)(d i:Nat):iM l d (i+1)=iM l d i++(if rF l ((i:Nat):Int)=false/\mK l ((i:Nat):Int)=d then[((i:Nat):Int)] else[]):=by unfold iM;rw[List.range_succ,List.filterMap_append];by_cases h:rF l ((i:Nat):Int)=false/\mK l ((i:Nat):Int)=d<;>simp [h]
theorem Dz(l:List E4)(d i:Nat):(iM l d i).length<=i:=by have:=List.length_filterMap_le (fun v:Nat=>if rF l ((v:Nat):Int)=false/\mK l ((v:Nat):Int)=d then some ((v:Nat):Int) else none) (List.range i);simpa [iM] using this
def kT(l:List E4)(n d:Nat):List Int:=((List.range d).map fun k=>iM l k n).flatten
theorem oH(l:List E4)(n d:Nat):kT l n (d+1)=kT l n d++iM l d n:=by simp [kT,List.range_succ]
theorem Ap(l:List E4)(n d:Nat):(kT l n d).length<=d*n:=by
 induction d with
 |zero=>simp [kT]
 |succ d ih=>
  rw[oH,List.length_append,Nat.succ_mul]
  have:=Dz l d n
  omega
def wR(n:Nat)(l:List E4):List Int:=kT l n (2*l.length+1)
end Go.Am
end

noncomputable section
namespace Go.Am
open Go
theorem Ik{x y:Int}(hx:0<=x/\x<32)(hy:0<=y/\y<32)(k:Nat):(Bh x y).toNat.testBit k=(x.toNat.testBit k||y.toNat.testBit k):=by rw[(Ds hx hy).1,Int.toNat_natCast,Nat.testBit_or]
theorem Lr(m:Int)(k:Nat):(zN m).toNat.testBit k=decide (m.toNat=k):=by unfold zN;rw[Int.toNat_natCast,Nat.testBit_two_pow]
theorem Gx{set:List Int}(hs:∀z∈set,0<=z/\z<32)(es:List Int)(k:Nat):(gZ set es).toNat.testBit k=es.any fun j=>((set[j.toNat]?).getD 0).toNat.testBit k:=by
 unfold gZ;have hz:∀e:Int,0<=((set[e.toNat]?).getD 0)/\((set[e.toNat]?).getD 0)<32:=fun e=>by
  cases hh:set[e.toNat]? with
  |none=>simp
  |some z=>exact hs z (xAh hh)
 have:∀(es:List Int) (s:Int),0<=s/\s<32->(es.foldl (fun s i=>Bh s ((set[i.toNat]?).getD 0)) s).toNat.testBit k=(s.toNat.testBit k||es.any fun j=>((set[j.toNat]?).getD 0).toNat.testBit k):=fun es=>by
  induction es with
  |nil=>intro s _;simp
  |cons e es ih=>
   intro s h
   rw[List.foldl_cons,ih _ (Ds h (hz e)).2,Ik h (hz e),List.any_cons,Bool.or_assoc]
 rw[this es 0 (by omega)];simp
theorem mL{l:List E4}(a0:∀e∈l,Eu e)(v:Int):∀i,i<=l.length->0<=aS l v i/\aS l v i<32
 |0,_=>by unfold aS;simp
 |i+1,h=>by
  have ih:=mL a0 v i (by omega);have he:l[i]?=some l[i]:=xAe (by omega);rw[qV v he];split
  ·exact(Ds ih (wV (a0 _ (List.getElem_mem _)).1 (a0 _ (List.getElem_mem _)).2)).2
  ·exact ih
theorem xW{l:List E4}(a0:∀e∈l,Eu e)(v:Int)(k:Nat):∀i,i<=l.length->((aS l v i).toNat.testBit k=true↔ ∃j e,j<i/\l[j]?=some e/\(e.f=v\/e.t=v)/\e.m.toNat=k)
 |0,_=>by unfold aS;simp
 |i+1,h=>by
  have ih:=xW a0 v k i (by omega);have he:l[i]?=some l[i]:=xAe (by omega);have hm:=a0 _ (List.getElem_mem (show i<l.length by omega));have hx:(∃j e,j<i+1/\l[j]?=some e/\(e.f=v\/e.t=v)/\e.m.toNat=k)↔(∃j e,j<i/\l[j]?=some e/\(e.f=v\/e.t=v)/\e.m.toNat=k)\/((l[i].f=v\/l[i].t=v)/\l[i].m.toNat=k):=by
   constructor
   ·rintro⟨j,e,h1,h2,h3⟩;by_cases hj:j=i
    ·subst hj;rw[he] at h2;cases h2;exact .inr h3
    ·exact .inl ⟨j,e,by omega,h2,h3⟩
   ·rintro(⟨j,e,h1,h2,h3⟩|h3)
    ·exact⟨j,e,by omega,h2,h3⟩
    ·exact⟨i,_,by omega,he,h3⟩
  rw[hx,<-ih,qV v he];by_cases hv:l[i].f=v\/l[i].t=v
  ·rw[if_pos hv,Ik (mL a0 v i (by omega)) (wV hm.1 hm.2),Lr];simp [hv]
  ·rw[if_neg hv];simp [hv]
theorem sI{k:uX}{l:List E4}{v:Int}{i:Nat}{x:Int}:x∈cP k l v i↔ ∃j e,j<i/\l[j]?=some e/\dW k e=v/\x=((j:Nat):Int):=by
 unfold cP;simp only [List.mem_filterMap,List.mem_range];constructor
 ·rintro⟨j,h1,h2⟩;cases he:l[j]? with
  |none=>rw[he] at h2;cases h2
  |some e=>
   rw[he] at h2
   simp only at h2
   by_cases hh:dW k e=v
   ·rw[if_pos hh] at h2;exact⟨j,e,h1,he,hh,(Option.some.inj h2).symm⟩
   ·rw[if_neg hh] at h2;cases h2
 ·rintro⟨j,e,h1,h2,h3,rfl⟩;exact⟨j,h1,by rw[h2];simp [h3]⟩
theorem Tu{n:Nat}{l:List E4}(h:fF ((n:Nat):Int) l=true){v:Int}(hv:0<=v/\v<(n:Int)):mH (jX n l) v=aS l v l.length:=by
 obtain⟨_,_,h3,h4⟩:=eM h;have a1:∀e∈l,Eu e:=fun e he=>(h4 e he).2.2.2.2
 have ha:=Lc h;have r1:=sE ha v;have r2:=mL a1 v l.length (Nat.le_refl _);have e1:fR (jX n l).out v=cP .fr l v l.length:=qM hv (nB h (by simp));have e2:fR (jX n l).inn v=cP .to l v l.length:=qM hv (nB h (by simp));have u1:=oK ha.2.2.2 (fR (jX n l).out v);have u2:=oK ha.2.2.2 (fR (jX n l).inn v);have key:(mH (jX n l) v).toNat=(aS l v l.length).toNat:=by
  apply Nat.eq_of_testBit_eq;intro k;rw[Bool.eq_iff_iff,xW a1 v k _ (Nat.le_refl _)];unfold mH;rw[Ik u1 u2,Gx ha.2.2.2,Gx ha.2.2.2,e1,e2];simp only [Bool.or_eq_true,List.any_eq_true];have a0:∀(j:Nat) (e:E4),l[j]?=some e->(((jX n l).set[((j:Nat):Int).toNat]?).getD 0).toNat.testBit k=decide (e.m.toNat=k):=fun j e he=>by
   show(((l.map (dW .set))[((j:Nat):Int).toNat]?).getD 0).toNat.testBit k=_;rw[Int.toNat_natCast,List.getElem?_map,he];exact Lr e.m k
  constructor
  ·rintro(⟨x,hx,hb⟩|⟨x,hx,hb⟩)
   ·obtain⟨j,e,q1,q2,q3,rfl⟩:=sI.1 hx;rw[a0 j e q2] at hb;exact⟨j,e,q1,q2,.inl q3,of_decide_eq_true hb⟩
   ·obtain⟨j,e,q1,q2,q3,rfl⟩:=sI.1 hx;rw[a0 j e q2] at hb;exact⟨j,e,q1,q2,.inr q3,of_decide_eq_true hb⟩
  ·rintro⟨j,e,q1,q2,q3|q3,q4⟩
   ·exact .inl ⟨_,sI.2 ⟨j,e,q1,q2,q3,rfl⟩,by rw[a0 j e q2];exact xAb q4⟩
   ·exact .inr ⟨_,sI.2 ⟨j,e,q1,q2,q3,rfl⟩,by rw[a0 j e q2];exact xAb q4⟩
 omega
theorem Wu{s:Int}(h:0<=s/\s<32):decide (sumB s>=(2:Int))=decide (((Le s.toNat:Nat):Int)>=2):=by
 have key:∀k:Fin 32,decide (sumB ((k.val:Nat):Int)>=(2:Int))=decide (((Le k.val:Nat):Int)>=2):=by decide+kernel
 have:=key ⟨s.toNat,by omega⟩;simp only at this;rw[Int.toNat_of_nonneg h.1] at this;exact this
theorem Vw{n:Nat}{l:List E4}(h:fF ((n:Nat):Int) l=true){v:Int}(hv:0<=v/\v<(n:Int)):lF (jX n l) v=rF l v:=by unfold lF rF;rw[Tu h hv];obtain⟨_,_,_,h4⟩:=eM h;exact(Wu (mL (fun e he=>(h4 e he).2.2.2.2) v l.length (Nat.le_refl _))).symm
theorem Yo{n:Nat}{l:List E4}(h:fF ((n:Nat):Int) l=true){v:Int}(hv:0<=v/\v<(n:Int)):fD (jX n l) v=mK l v:=by have e1:fR (jX n l).out v=cP .fr l v l.length:=qM hv (nB h (by simp));have e2:fR (jX n l).inn v=cP .to l v l.length:=qM hv (nB h (by simp));unfold fD mK;rw[e1,e2]
theorem Gr(l:List E4)(v:Int):mK l v<=2*l.length:=by have h1:=kP .fr l v l.length;have h2:=kP .to l v l.length;unfold mK;omega
theorem Pv(f:Int->Nat)(vs:List Int)(d:Nat):bk (fun j=>f ((vs[j]?).getD 0)) (fun j=>(vs[j]?).getD 0) vs.length d=vs.filter fun x=>decide (f x=d):=by
 have:∀i,i<=vs.length->bk (fun j=>f ((vs[j]?).getD 0)) (fun j=>(vs[j]?).getD 0) i d=(vs.take i).filter fun x=>decide (f x=d):=fun i=>by
  induction i with
  |zero=>intro _;rfl
  |succ i ih=>
   intro hi
   rw[uJ,ih (by omega),List.take_succ_eq_append_getElem (by omega),List.filter_append,xAe (by omega)]
   simp only [Option.getD_some]
   by_cases hh:f vs[i]=d<;>simp [hh]
 rw[this _ (Nat.le_refl _),List.take_length]
theorem Cx{α β:Type}{f g:α->Option β}:∀{l:List α},(∀x∈l,f x=g x)->l.filterMap f=l.filterMap g
 | [],_=>rfl
 |x::l,h=>by
  rw[List.filterMap_cons,List.filterMap_cons,h x (List.mem_cons_self ..),Cx fun y hy=>h y (List.mem_cons_of_mem _ hy)]
theorem Dt{n:Nat}{l:List E4}(h:fF ((n:Nat):Int) l=true):dA n l=wR n l:=by
 obtain⟨_,_,h3,_⟩:=eM h;have hd:∀d,bk (iJ (jX n l) (eO (jX n l) n)) (fun j=>((eO (jX n l) n)[j]?).getD 0) (eO (jX n l) n).length d=iM l d n:=fun d=>by
  rw[show iJ (jX n l) (eO (jX n l) n)=fun j=>fD (jX n l) (((eO (jX n l) n)[j]?).getD 0) from rfl,Pv];unfold eO iM;rw[List.filter_filterMap];refine Cx fun v hv=>?_
  have a1:0<=((v:Nat):Int)/\((v:Nat):Int)<(n:Int):=by have:=List.mem_range.1 hv;omega
  rw[Vw h a1];cases hl:rF l ((v:Nat):Int) with
  |true=>simp
  |false=>
   have:=Yo h a1
   by_cases hdd:mK l ((v:Nat):Int)=d
   ·simp [this,hdd,Option.filter]
   ·simp [this,hdd,Option.filter]
 have a0:∀d,2*l.length<d->iM l d n=[]:=fun d a3=>by
  unfold iM;rw[List.filterMap_eq_nil_iff];intro v _;have:=Gr l ((v:Nat):Int);rw[if_neg (by omega)]
 have a2:∀k,kT l n (2*l.length+1+k)=kT l n (2*l.length+1):=fun k=>by
  induction k with
  |zero=>rfl
  |succ k ih=>rw[show 2*l.length+1+(k+1)=(2*l.length+1+k)+1 by omega,oH,ih,a0 _ (by omega),List.append_nil]
 unfold dA sK wR;rw[<-a2 (801-(2*l.length+1)),show 2*l.length+1+(801-(2*l.length+1))=801 by omega];exact congrArg List.flatten (List.map_congr_left fun d _=>hd d)
end Go.Am
end
