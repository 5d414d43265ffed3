/-
  Package hier: each of its laws for every argument; no conditions. The last text states which.
-/
import Derived.Test.YtdaglldahidmbaaGAmPw
set_option linter.unusedVariables false
set_option linter.unusedSimpArgs false
noncomputable section
namespace Go.Am
open Go
def dN(c:Nat->Nat):Nat->Nat
 |0=>0
 |v+1=>dN c v+c v
theorem Ex(c:Nat->Nat): ∀{u v:Nat},u<=v->dN c u<=dN c v
 |u,0,h=>by have:u=0:=by omega
            subst this;exact Nat.le_refl _
 |u,v+1,h=>by
  by_cases e:u=v+1
  ·subst e;exact Nat.le_refl _
  ·have:=Ex c (show u<=v by omega)
   show dN c u<=dN c v+c v
   omega
theorem nM(c:Nat->Nat){u v:Nat}(h:u<v):dN c u+c u<=dN c v:=Ex c (show u+1<=v from h)
theorem Ca{c d:Nat->Nat}: ∀{n:Nat},(∀v,v<n->c v=d v)->dN c n=dN d n
 |0,_=>rfl
 |n+1,h=>by show dN c n+c n=dN d n+d n;rw[Ca (n:=n) fun v hv=>h v (by omega),h n (by omega)]
def bk{α:Type}(key:Nat->Nat)(item:Nat->α)(i v:Nat):List α:=(List.range i).filterMap fun j=>if key j=v then some (item j) else none
theorem sP{α:Type}(key:Nat->Nat)(item:Nat->α)(i v:Nat):bk key item (i+1) v=bk key item i v++(if key i=v then[item i] else[]):=by
 unfold bk
 rw[List.range_succ,List.filterMap_append]
 by_cases h:key i=v<;>simp [h]
theorem Ks{α β:Type}(key:Nat->Nat)(item:Nat->α)(f:α->β)(i v:Nat):(bk key item i v).map f=bk key (fun j=>f (item j)) i v:=by
 induction i with
 |zero=>rfl
 |succ i ih=>rw[sP,sP,List.map_append,ih];by_cases h:key i=v<;>simp [h]
def iH(key:Nat->Nat)(i v:Nat):Nat:=(bk key (fun _=>()) i v).length
theorem uN{α:Type}(key:Nat->Nat)(item:Nat->α)(i v:Nat):(bk key item i v).length=iH key i v:=by
 unfold iH
 rw[<-Ks key item (fun _=>())]
 simp
theorem jL(key:Nat->Nat)(i v:Nat):iH key (i+1) v=iH key i v+(if key i=v then 1 else 0):=by
 unfold iH
 rw[sP,List.length_append]
 by_cases h:key i=v<;>simp [h]
theorem Ig(key:Nat->Nat)(v:Nat): ∀{i j:Nat},i<=j->iH key i v<=iH key j v
 |i,0,h=>by have:i=0:=by omega
            subst this;exact Nat.le_refl _
 |i,j+1,h=>by
  by_cases e:i=j+1
  ·subst e;exact Nat.le_refl _
  ·have:=Ig key v (show i<=j by omega)
   rw[jL];omega
theorem Pj(key:Nat->Nat){i j:Nat}(h:i<j):iH key i (key i)<iH key j (key i):=by
 have h1:=Ig key (key i) (show i+1<=j from h)
 rw[jL,if_pos rfl] at h1
 omega
theorem sG(key:Nat->Nat)(n:Nat): ∀(i:Nat),(∀j,j<i->key j<n)->dN (iH key i) n=i
 |0,_=>by
  have: ∀n,dN (iH key 0) n=0:=fun n=>by
   induction n with
   |zero=>rfl
   |succ n ih=>show dN (iH key 0) n+iH key 0 n=0;rw[ih];rfl
  exact this n
 |i+1,h=>by
  have ih:=sG key n i fun j hj=>h j (by omega)
  have hk:=h i (by omega)
  have: ∀m,dN (iH key (i+1)) m=dN (iH key i) m+(if key i<m then 1 else 0):=fun m=>by
   induction m with
   |zero=>rfl
   |succ m ihm=>
    show dN (iH key (i+1)) m+iH key (i+1) m=dN (iH key i) m+iH key i m+_
    rw[ihm,jL]
    by_cases h1:key i<m
    ·rw[if_pos h1,if_neg (by omega),if_pos (by omega)];omega
    ·by_cases h2:key i=m
     ·rw[if_neg h1,if_pos h2,if_pos (by omega)];omega
     ·rw[if_neg h1,if_neg h2,if_neg (by omega)];omega
  rw[this,ih,if_pos hk]
structure Bk(c:Nat->Nat)(n:Nat)(key:Nat->Nat)(item:Nat->Value)(i:Nat)(mem:List Value):Prop where
 len:mem.length=dN c n
 le: ∀v,v<n->iH key i v<=c v
 at_: ∀v k,v<n->k<iH key i v->mem[dN c v+k]?=(bk key item i v)[k]?
theorem Bk.zero{c:Nat->Nat}{n:Nat}{key:Nat->Nat}{item:Nat->Value}{mem:List Value}(h:mem.length=dN c n):Bk c n key item 0 mem:=
 ⟨h,fun v _=>Nat.zero_le _,fun v k _ hk=>absurd hk (Nat.not_lt_zero _)⟩
theorem Bk.room{c:Nat->Nat}{n:Nat}{key:Nat->Nat}{item:Nat->Value}{i:Nat}{mem:List Value}(h:Bk c n key item i mem){v:Nat}(hv:v<n)(hc:iH key i v<c v):dN c v+iH key i v<mem.length:=by
 have:=nM c hv
 rw[h.len];omega
theorem Bk.step{c:Nat->Nat}{n:Nat}{key:Nat->Nat}{item:Nat->Value}{i:Nat}{mem:List Value}(h:Bk c n key item i mem)(hv:key i<n)(hc:iH key i (key i)<c (key i)):
  Bk c n key item (i+1) (splice mem (dN c (key i)+iH key i (key i)) [item i]):=by
 have hlt:=h.room hv hc
 rw[jR _ _ _ hlt]
 refine⟨by rw[List.length_set];exact h.len,fun v hvn=> ?_,fun v k hvn hk=> ?_⟩
 ·rw[jL]
  by_cases e:key i=v
  ·subst e;rw[if_pos rfl];omega
  ·rw[if_neg e];exact h.le v hvn
 ·rw[sP]
  rw[jL] at hk
  by_cases e:key i=v
  ·subst e
   rw[if_pos rfl] at hk⊢
   by_cases a0:k<iH key i (key i)
   ·rw[List.getElem?_set_ne (by omega),h.at_ _ _ hvn a0,List.getElem?_append_left (by rw[uN];exact a0)]
   ·have:k=iH key i (key i):=by omega
    subst this
    rw[List.getElem?_set_self hlt,List.getElem?_append_right (by rw[uN];exact Nat.le_refl _),uN,Nat.sub_self]
    rfl
  ·rw[if_neg e] at hk⊢
   rw[List.append_nil]
   have hle:=h.le v hvn
   have hne:dN c (key i)+iH key i (key i)≠dN c v+k:=by
    rcases Nat.lt_or_gt_of_ne e with h1|h1
    ·have:=nM c h1;omega
    ·have:=nM c h1;omega
   rw[List.getElem?_set_ne hne]
   exact h.at_ v k hvn (by omega)
theorem Bk.row{c:Nat->Nat}{n:Nat}{key:Nat->Nat}{item:Nat->Value}{i:Nat}{mem:List Value}(h:Bk c n key item i mem){v:Nat}(hv:v<n):(mem.drop (dN c v)).take (iH key i v)=bk key item i v:=by
 apply List.ext_getElem?
 intro k
 by_cases hk:k<iH key i v
 ·rw[List.getElem?_take_of_lt hk,List.getElem?_drop,h.at_ v k hv hk]
 ·rw[List.getElem?_eq_none (by simp;omega),List.getElem?_eq_none (by rw[uN];omega)]
theorem Bk.whole{c:Nat->Nat}{n:Nat}{key:Nat->Nat}{item:Nat->Value}{i:Nat}{mem:List Value}(h:Bk c n key item i mem)(hf: ∀v,v<n->iH key i v=c v):mem=((List.range n).map (bk key item i)).flatten:=by
 have: ∀m,m<=n->mem.take (dN c m)=((List.range m).map (bk key item i)).flatten:=fun m=>by
  induction m with
  |zero=>intro _;rfl
  |succ m ih=>
   intro hm
   have h1:=h.row (v:=m) (by omega)
   rw[hf m (by omega)] at h1
   show mem.take (dN c m+c m)=_
   rw[List.take_add,ih (by omega),h1,List.range_succ]
   simp
 rw[<-this n (Nat.le_refl _),<-h.len,List.take_length]
def yO(m:Nat)(c ln:Nat->Nat)(v:Nat):Value:=aD m (dN c v) (ln v) (c v+1)
def dG(m:Nat)(c ln:Nat->Nat)(n:Nat):List Value:=(List.range n).map (yO m c ln)
theorem fO(m:Nat)(c ln:Nat->Nat)(n:Nat):(dG m c ln n).length=n:=by simp [dG]
theorem gP(m:Nat)(c ln:Nat->Nat){n v:Nat}(h:v<n):(dG m c ln n)[v]?=some (yO m c ln v):=by simp [dG,h]
theorem tY(m:Nat)(c:Nat->Nat)(key:Nat->Nat)(i n:Nat)(h:key i<n):splice (dG m c (iH key i) n) (key i) [aD m (dN c (key i)) (iH key i (key i)+1) (c (key i)+1)]=dG m c (iH key (i+1)) n:=by
 rw[jR _ _ _ (by rw[fO];exact h)]
 apply List.ext_getElem?
 intro v
 by_cases e:key i=v
 ·subst e
  rw[List.getElem?_set_self (by rw[fO];exact h),gP _ _ _ h]
  unfold yO
  rw[jL,if_pos rfl]
 ·rw[List.getElem?_set_ne e]
  by_cases hv:v<n
  ·rw[gP _ _ _ hv,gP _ _ _ hv]
   unfold yO
   rw[jL,if_neg e];rfl
  ·rw[List.getElem?_eq_none (by rw[fO];omega),List.getElem?_eq_none (by rw[fO];omega)]
def bI(rs:List (List Int))(v:Value)(M:aA):Prop:= ∃E c blk,v=aD E 0 rs.length c/\M.get E=some blk/\blk.esz=1/\blk.cs.length=rs.length/\ ∀(u:Nat) (r:List Int),rs[u]?=some r-> ∃x,blk.cs[u]?=some x/\aP r x M
instance:AP bI:=⟨fun{x y _ _} ⟨E,c,blk,h1,h2,_,_,h5⟩ ⟨E',c',blk',k1,k2,_,_,k5⟩=>by
 rw[h1] at k1
 simp only [Value.slice.injEq,Option.some.injEq,Addr.mk.injEq,and_true] at k1
 obtain⟨rfl,hl,_⟩:=k1
 rw[h2] at k2;cases k2
 apply List.ext_getElem?
 intro u
 by_cases hu:u<x.length
 ·obtain⟨a,a1,a2⟩:=h5 u x[u] (List.getElem?_eq_getElem hu)
  obtain⟨b,b1,b2⟩:=k5 u y[u] (List.getElem?_eq_getElem (by omega))
  rw[a1] at b1;cases b1
  rw[List.getElem?_eq_getElem hu,List.getElem?_eq_getElem (by omega),AP.uniq (R:=aP) a2 b2]
 ·rw[List.getElem?_eq_none (by omega),List.getElem?_eq_none (by omega)],
 fun hE ⟨E,c,blk,h1,h2,h3,h4,h5⟩=>⟨E,c,blk,h1,hE _ _ h2,h3,h4,fun u r hr=>let ⟨x,a,b⟩:=h5 u r hr;⟨x,a,AP.ext (R:=aP) hE b⟩⟩⟩
theorem Rl{M:aA}{E m n k:Nat}{c:Nat->Nat}{key:Nat->Nat}{item:Nat->Int}{mem:List Value}{tE tm wE wm:Nat}{qE qm:Bool}(hE:M.get E=some ⟨dG m c (iH key k) n,tE,1,wE,qE⟩)(hm:M.get m=some ⟨mem,tm,1,wm,qm⟩)(h:Bk c n key (fun j=>i64 (item j)) k mem)(hk:k<=9223372036854775807)(cp:Nat):
  bI ((List.range n).map (bk key item k)) (aD E 0 n cp) M:=by
 refine⟨E,cp,_,by simp,hE,rfl,by rw[fO];simp,fun u r hr=> ?_⟩
 have hu:u<n:=by
  have:=(List.getElem?_eq_some_iff.1 hr).1
  simpa using this
 simp [hu] at hr
 subst hr
 refine⟨_,gP _ _ _ hu,?_⟩
 unfold yO
 have hb:(bk key item k u).map i64=bk key (fun j=>i64 (item j)) k u:=Ks _ _ _ _ _
 have h1:=h.row hu
 have hlen:(bk key item k u).length=iH key k u:=uN _ _ _ _
 have hle:=h.le u hu
 have hnx:=nM c hu
 rw[<-hlen]
 refine aK.of_blk (blk:=⟨mem,tm,1,wm,qm⟩) (pre:=mem.take (dN c u)) (post:=mem.drop (dN c u+iH key k u)) hm ?_ ?_ (fun _ _=>rfl) rfl ?_
 ·show mem=_
  rw[vX,hb,<-h1,List.append_assoc,<-List.drop_drop,List.take_append_drop,List.take_append_drop]
 ·rw[List.length_take,h.len]
  omega
 ·rw[hlen]
  have: ∀i,iH key i u<=i:=fun i=>by
   induction i with
   |zero=>exact Nat.le_refl _
   |succ i ih=>rw[jL];split<;>omega
  exact Nat.le_trans (this k) hk
def eG(ends:List Int)(j:Nat):Nat:=((ends[j]?).getD 0).toNat
theorem zS{ends:List Int}{j:Nat}(h:j<ends.length):eG ends j=(ends[j]).toNat:=by unfold eG;rw[List.getElem?_eq_getElem h];rfl
theorem zT{ends:List Int}{n:Nat}(hb: ∀x∈ends,0<=x/\x<(n:Int)){j:Nat}(h:j<ends.length):eG ends j<n:=by
 rw[zS h]
 have:=hb _ (List.getElem_mem h)
 omega
def gM(key:Nat->Nat)(i n:Nat):List Value:=(List.range n).map fun v=>i64 ((iH key i v:Nat):Int)
theorem iJ(key:Nat->Nat)(i n:Nat):(gM key i n).length=n:=by simp [gM]
theorem iI(key:Nat->Nat)(i:Nat){n v:Nat}(h:v<n):(gM key i n)[v]?=some (i64 ((iH key i v:Nat):Int)):=by simp [gM,h]
theorem tR(key:Nat->Nat)(n:Nat):gM key 0 n=List.replicate n (i64 0):=by
 apply List.ext_getElem?
 intro v
 by_cases hv:v<n
 ·rw[iI _ _ hv,List.getElem?_replicate,if_pos hv];rfl
 ·rw[List.getElem?_eq_none (by rw[iJ];omega),List.getElem?_eq_none (by simp;omega)]
theorem tQ(key:Nat->Nat){i n:Nat}(h:key i<n):splice (gM key i n) (key i) [i64 ((iH key i (key i)+1:Nat):Int)]=gM key (i+1) n:=by
 rw[jR _ _ _ (by rw[iJ];exact h)]
 apply List.ext_getElem?
 intro v
 by_cases e:key i=v
 ·subst e
  rw[List.getElem?_set_self (by rw[iJ];exact h),iI _ _ h,jL,if_pos rfl]
 ·rw[List.getElem?_set_ne e]
  by_cases hv:v<n
  ·rw[iI _ _ hv,iI _ _ hv,jL,if_neg e];rfl
  ·rw[List.getElem?_eq_none (by rw[iJ];omega),List.getElem?_eq_none (by rw[iJ];omega)]
theorem Aq(key:Nat->Nat)(i v:Nat):iH key i v<=i:=by
 induction i with
 |zero=>exact Nat.le_refl _
 |succ i ih=>rw[jL];split<;>omega
theorem Kd{i:Nat}(h:i<1099511627776):IntKind.wrap .i64 ((i:Nat):Int)=((i:Nat):Int):=Go.Am.fD (by omega) (by omega)
theorem wU{i j:Nat}(h:i+j<1099511627776):IntKind.wrap .i64 (((i:Nat):Int)+((j:Nat):Int))=((i+j:Nat):Int):=by
 rw[<-Kd h];congr 1
def lM(n:Nat)(ends:List Int):List (List Int):=(List.range n).map (bk (eG ends) (fun j=>((j:Nat):Int)) ends.length)
theorem Co(n:Nat)(ends:List Int):(lM n ends).length=n:=by simp [lM]
def Qw(x:Nat×List Int)(nx:Nat)(v:Value)(M:aA):Prop:= ∃E D,v=aD E 0 x.1 (x.1+1)/\nx<=E/\nx<=D/\D≠E/\M.get E=some ⟨dG D (iH (eG x.2) x.2.length) (fun _=>0) x.1,22,1,0,true⟩/\M.get D=some ⟨List.replicate x.2.length (i64 0),3,1,0,true⟩
instance:AQ Qw:=⟨fun hE ⟨E,D,h1,h2,h3,h4,h5,h6⟩=>⟨E,D,h1,h2,h3,h4,hE _ _ h5,hE _ _ h6⟩⟩
structure eL where
 out:List (List Int)
 inn:List (List Int)
 to:List Int
 set:List Int
def iQ(n:Nat)(l:List E4):eL:=⟨lM n (l.map (dB .fr)),lM n (l.map (dB .to)),l.map (dB .to),l.map (dB .set)⟩
def eJ(ty:TypeId)(a:eL)(v:Value)(M:aA):Prop:= ∃b o i t s,v=pt b 0/\M.get b=some ⟨[o,i,t,s],ty,4,0,true⟩/\bI a.out o M/\bI a.inn i M/\aP a.to t M/\aP a.set s M
instance(ty:TypeId):AP (eJ ty):=⟨fun{x y _ _} ⟨b,o,i,t,s,h1,h2,h3,h4,h5,h6⟩ ⟨b',o',i',t',s',k1,k2,k3,k4,k5,k6⟩=>by
 rw[h1] at k1
 simp only [Value.pointer.injEq,Option.some.injEq,Addr.mk.injEq,and_true] at k1
 subst k1
 rw[h2] at k2
 simp only [Option.some.injEq,aW.mk.injEq,List.cons.injEq,and_true,true_and] at k2
 obtain⟨rfl,rfl,rfl,rfl⟩:=k2
 have e1:=AP.uniq (R:=bI) h3 k3;have e2:=AP.uniq (R:=bI) h4 k4;have e3:=AP.uniq (R:=aP) h5 k5;have e4:=AP.uniq (R:=aP) h6 k6
 cases x;cases y;simp_all,
 fun hE ⟨b,o,i,t,s,h1,h2,h3,h4,h5,h6⟩=>⟨b,o,i,t,s,h1,hE _ _ h2,AP.ext (R:=bI) hE h3,AP.ext (R:=bI) hE h4,AP.ext (R:=aP) hE h5,AP.ext (R:=aP) hE h6⟩⟩
theorem Ee{x n:Int}:dM x n=true↔0<=x/\x<n:=by simp [dM]
theorem eZ{n:Int}{l:List E4}(h:eP n l=true):1<=n/\n<=60/\l.length<=400/\ ∀e∈l,0<=e.f/\e.f<n/\0<=e.t/\e.t<n/\Dc e:=by
 simp only [eP,fS,Bool.and_eq_true,Bool.not_eq_true',Bool.or_eq_false_iff,Bool.not_eq_false',decide_eq_true_eq,decide_eq_false_iff_not,List.all_eq_true] at h
 obtain⟨⟨⟨h1,h2⟩,h3⟩,h4⟩:=h
 refine⟨h1,h2,by omega,fun e he=> ?_⟩
 have:=h4 e he
 simp only [gV,Bool.and_eq_true,Ee,decide_eq_true_eq] at this
 obtain⟨⟨⟨⟨h5,h6⟩,h7⟩,h8⟩,h9⟩:=this
 exact⟨h5.1,h5.2,h6.1,h6.2,h7⟩
theorem mF{n:Int}{l:List E4}(h:eP n l=true){k:tK}(hk:k≠ .set): ∀x∈l.map (dB k),0<=x/\x<n:=fun x hx=>by
 obtain⟨e,he,rfl⟩:=List.mem_map.1 hx
 obtain⟨_,_,_,hh⟩:=eZ h
 have:=hh e he
 cases k
 ·exact⟨this.2.2.1,this.2.2.2.1⟩
 ·exact⟨this.1,this.2.1⟩
 ·exact absurd rfl hk
def dH(rs:List (List Int))(v:Int):List Int:=if 0<=v then(rs[v.toNat]?).getD [] else[]
theorem Bp{P:Program}{rs:List (List Int)}{E n c u:Nat}{r:List Int}{M:aA}{ty:TypeId}(h:bI rs (aD E 0 n c) M)(hu:rs[u]?=some r)(hd:(P.underlying ty).map dX=some false): ∃a c',aX P ty ⟨E,0+u*1,none⟩ M=some (.slice a r.length c')/\aP r (.slice a r.length c') M:=by
 obtain⟨E',c0,blk,h1,h2,_,_,h5⟩:=h
 simp only [Value.slice.injEq,Option.some.injEq,Addr.mk.injEq,and_true] at h1
 obtain⟨rfl,_,_⟩:=h1
 obtain⟨x,hx,hp⟩:=h5 u r hu
 obtain⟨a,c',rfl⟩:=aK.form hp
 exact⟨a,c',bW (a:=⟨E,0+u*1,none⟩) hd h2 (by simpa using hx),hp⟩
theorem fU{rs:List (List Int)}{v:Value}{M:aA}(h:bI rs v M): ∃E c,v=aD E 0 rs.length c:=by
 obtain⟨E,c,blk,h1,_⟩:=h
 exact⟨E,c,h1⟩
def pY(a:eL):Prop:=(∀r∈a.out,r.length<=400/\ ∀j∈r,0<=j/\j<(a.set.length:Int))/\(∀r∈a.inn,r.length<=400/\ ∀j∈r,0<=j/\j<(a.set.length:Int))/\a.set.length<=400/\ ∀z∈a.set,0<=z/\z<32
theorem Uw{α:Type}{key:Nat->Nat}{item:Nat->α}{i v:Nat}{x:α}:x∈bk key item i v↔ ∃j,j<i/\key j=v/\item j=x:=by
 unfold bk
 simp only [List.mem_filterMap,List.mem_range]
 constructor
 ·rintro⟨j,h1,h2⟩
  by_cases h:key j=v
  ·rw[if_pos h] at h2;exact⟨j,h1,h,Option.some.inj h2⟩
  ·rw[if_neg h] at h2;cases h2
 ·rintro⟨j,h1,h2,rfl⟩
  exact⟨j,h1,by rw[if_pos h2]⟩
theorem Fc{n:Nat}{ends:List Int}(h:ends.length<=400): ∀r∈lM n ends,r.length<=400/\ ∀j∈r,0<=j/\j<(ends.length:Int):=fun r hr=>by
 obtain⟨v,_,rfl⟩:=List.mem_map.1 hr
 refine⟨by rw[uN];exact Nat.le_trans (Aq _ _ _) h,fun j hj=> ?_⟩
 obtain⟨k,h1,_,rfl⟩:=Uw.1 hj
 omega
theorem vF{m:Int}(h0:0<=m)(h5:m<5):0<=tN m/\tN m<32:=by
 have:m=0\/m=1\/m=2\/m=3\/m=4:=by omega
 rcases this with rfl|rfl|rfl|rfl|rfl<;>decide
theorem Jg{n:Nat}{l:List E4}(h:eP ((n:Nat):Int) l=true):pY (iQ n l):=by
 obtain⟨_,_,h3,h4⟩:=eZ h
 have e1:((l.map (dB .set)).length:Int)=((l.map (dB .fr)).length:Int):=by simp
 have e2:((l.map (dB .set)).length:Int)=((l.map (dB .to)).length:Int):=by simp
 refine⟨?_,?_,by simpa [iQ] using h3,fun z hz=> ?_⟩
 ·show∀r∈lM n _,r.length<=400/\ ∀j∈r,0<=j/\j<((l.map (dB .set)).length:Int)
  rw[e1];exact Fc (by simpa using h3)
 ·show∀r∈lM n _,r.length<=400/\ ∀j∈r,0<=j/\j<((l.map (dB .set)).length:Int)
  rw[e2];exact Fc (by simpa using h3)
 ·obtain⟨e,he,rfl⟩:=List.mem_map.1 hz
  exact vF (h4 e he).2.2.2.2.1 (h4 e he).2.2.2.2.2
theorem pA{rs:List (List Int)}{p:List Int->Prop}(h: ∀r∈rs,p r)(h0:p [])(v:Int):p (dH rs v):=by
 unfold dH
 split
 ·cases hh:rs[v.toNat]? with
  |none=>exact h0
  |some r=>exact h r (List.mem_of_getElem? hh)
 ·exact h0
def eO(set es:List Int):Int:=es.foldl (fun s i=>yY s ((set[i.toNat]?).getD 0)) 0
def jN(a:eL)(v:Int):Int:=yY (eO a.set (dH a.out v)) (eO a.set (dH a.inn v))
def mD(ty:TypeId)(x:Nat×eL)(v:Value)(M:aA):Prop:= ∃p,v= .agg ⟨[i64 ((x.1:Nat):Int),p]⟩/\eJ ty x.2 p M
instance(ty:TypeId):AP (mD ty):=⟨fun{x y _ _} ⟨p,h1,h2⟩ ⟨q,k1,k2⟩=>by
 rw[h1] at k1
 simp only [Value.agg.injEq,Array.mk.injEq,List.cons.injEq,and_true] at k1
 obtain⟨e1,rfl⟩:=k1
 have e2:=AP.uniq (R:=eJ ty) h2 k2
 obtain⟨a,b⟩:=x;obtain⟨c,d⟩:=y
 have h3:a=c:=by have:((a:Nat):Int)=((c:Nat):Int):=by simpa [i64] using e1
                 omega
 have h4:b=d:=e2
 rw[h3,h4],fun hE ⟨p,h1,h2⟩=>⟨p,h1,AP.ext (R:=eJ ty) hE h2⟩⟩
def pU(k:Nat)(v:Value)(_:aA):Prop:=v= .int .u64 ((k:Nat):Int)
instance:AP pU:=⟨fun h k=>by unfold pU at h k;rw[h] at k;simp at k;omega,fun _ h=>h⟩
def Gu(n:Nat):Nat:=n%2+n/2%2+n/4%2+n/8%2+n/16%2
theorem Cd{x y:Int}(hx:0<=x/\x<32)(hy:0<=y/\y<32):yY x y=((x.toNat|||y.toNat:Nat):Int)/\0<=yY x y/\yY x y<32:=by
 have h:=Tc (x:=x.toNat) (y:=y.toNat) (by omega) (by omega)
 rw[Int.toNat_of_nonneg hx.1,Int.toNat_of_nonneg hy.1] at h
 have h2:x.toNat|||y.toNat<2^5:=Nat.or_lt_two_pow (by omega) (by omega)
 exact⟨h,by omega,by omega⟩
theorem nH{set:List Int}(hs: ∀z∈set,0<=z/\z<32)(es:List Int):0<=eO set es/\eO set es<32:=by
 unfold eO
 have: ∀(es:List Int) (s:Int),0<=s/\s<32->0<=es.foldl (fun s i=>yY s ((set[i.toNat]?).getD 0)) s/\es.foldl (fun s i=>yY s ((set[i.toNat]?).getD 0)) s<32:=fun es=>by
  induction es with
  |nil=>intro s h;exact h
  |cons e es ih=>
   intro s h
   have h2:0<=((set[e.toNat]?).getD 0)/\((set[e.toNat]?).getD 0)<32:=by
    cases hh:set[e.toNat]? with
    |none=>simp
    |some z=>exact hs z (List.mem_of_getElem? hh)
   exact ih _ (Cd h h2).2
 exact this es 0 (by omega)
theorem qV{a:eL}(h:pY a)(v:Int):0<=jN a v/\jN a v<32:=(Cd (nH h.2.2.2 _) (nH h.2.2.2 _)).2
theorem wrapU{x:Int}(h:0<=x/\x<32):IntKind.wrap .u64 x=((x.toNat:Nat):Int):=by
 rw[Int.toNat_of_nonneg h.1]
 show x%(2^64)=x
 exact Int.emod_eq_of_lt h.1 (by omega)
def jB(a:eL)(v:Int):Bool:=decide (((Gu (jN a v).toNat:Nat):Int)>=2)
def dE(a:eL)(v:Int):Nat:=(dH a.out v).length+(dH a.inn v).length
theorem rX{a:eL}(h:pY a)(v:Int):dE a v<=800:=by
 have h1:=pA (p:=fun r=>r.length<=400) (fun r hr=>(h.1 r hr).1) (by decide) v
 have h2:=pA (p:=fun r=>r.length<=400) (fun r hr=>(h.2.1 r hr).1) (by decide) v
 unfold dE;omega
def Cf(f:FuncId)(ty:TypeId)(x:Nat×eL)(v:Value)(M:aA):Prop:= ∃s,v= .func (.func f) ⟨[s]⟩ ⟨[]⟩/\mD ty x s M
instance(f:FuncId)(ty:TypeId):AP (Cf f ty):=⟨fun{x y _ _} ⟨p,h1,h2⟩ ⟨q,k1,k2⟩=>by
 rw[h1] at k1
 simp only [Value.func.injEq,true_and,Array.mk.injEq,List.cons.injEq,and_true] at k1
 subst k1
 exact AP.uniq (R:=mD ty) h2 k2,fun hE ⟨p,h1,h2⟩=>⟨p,h1,AP.ext (R:=mD ty) hE h2⟩⟩
def oN(M0 M:aA)(S:Value)(l:List Int):Prop:=(S=cI/\l= [])\/ ∃b,S=aD b 0 l.length l.length/\l≠ []/\M0.next<=b/\M.get b=some ⟨l.map i64,3,1,0,true⟩
theorem oN.keep{M0 M M':aA}{S:Value}{l:List Int}(h:oN M0 M S l)(hk: ∀id b,M0.next<=id->M.get id=some b->M'.get id=some b):oN M0 M' S l:=by
 rcases h with h|⟨b,h1,h2,h3,h4⟩
 ·exact .inl h
 ·exact .inr ⟨b,h1,h2,h3,hk _ _ h3 h4⟩
theorem oN.new{M0 M:aA}{S:Value}{l:List Int}{n:Nat}(h:oN M0 M S l)(hl:l.length<=9223372036854775807)(hn:n<=M0.next):aP l S (hid n M):=by
 rcases h with⟨rfl,rfl⟩|⟨b,rfl,_,h3,h4⟩
 ·exact aK.nil none
 ·exact aK.of_blk' (iZ (by omega) h4) rfl (vX l).symm (fun _ _=>rfl) hl
def dF(a:eL)(i:Nat):List Int:=(List.range i).filterMap fun v=>if jB a ((v:Nat):Int) then none else some ((v:Nat):Int)
theorem tV(a:eL)(i:Nat):dF a (i+1)=dF a i++(if jB a ((i:Nat):Int) then[] else[((i:Nat):Int)]):=by
 unfold dF
 rw[List.range_succ,List.filterMap_append]
 cases h:jB a ((i:Nat):Int)<;>simp [h]
theorem qX(a:eL)(i:Nat):(dF a i).length<=i:=by
 have:=List.length_filterMap_le (fun v:Nat=>if jB a ((v:Nat):Int) then none else some ((v:Nat):Int)) (List.range i)
 simpa [dF] using this
def tW(sz:List Nat)(v:Value)(M:aA):Prop:=aP (sz.map fun k=>((k:Nat):Int)) v M
theorem yS: ∀{a b:List Nat},a.map (fun k=>((k:Nat):Int))=b.map (fun k=>((k:Nat):Int))->a=b
 | [],[],_=>rfl
 | [],_::_,h=>by simp at h
 |_::_,[],h=>by simp at h
 |x::a,y::b,h=>by
  simp only [List.map_cons,List.cons.injEq] at h
  have:x=y:=by omega
  rw[this,yS h.2]
instance:AP tW:=⟨fun h k=>yS (AP.uniq (R:=aP) h k),fun hE h=>AP.ext (R:=aP) hE h⟩
def Td(x:Nat×Nat)(v:Value)(M:aA):Prop:=v=aD x.1 0 x.2 (x.2+1)/\ ∃cd,M.get x.1=some ⟨cd,3,1,0,true⟩
instance:AP Td:=⟨fun{x y _ _} ⟨h,_⟩ ⟨k,_⟩=>by
 rw[h] at k
 simp only [Value.slice.injEq,Option.some.injEq,Addr.mk.injEq,and_true] at k
 obtain⟨a,b⟩:=x;obtain⟨c,d⟩:=y
 have h1:a=c:=k.1
 have h2:b=d:=k.2.1
 rw[h1,h2],fun hE ⟨h,cd,k⟩=>⟨h,cd,hE _ _ k⟩⟩
def nV(sz:List Nat)(d:Nat):Nat:=(sz[d]?).getD 0
def gX(a:eL)(vs:List Int)(j:Nat):Nat:=dE a ((vs[j]?).getD 0)
def gH(a:eL)(vs:List Int):List Nat:=(List.range 801).map (iH (gX a vs) vs.length)
theorem xG{a:eL}{vs:List Int}{d:Nat}(h:d<801):nV (gH a vs) d=iH (gX a vs) vs.length d:=by
 unfold nV gH
 rw[List.getElem?_map,List.getElem?_range h];rfl
def Lw(x:(Nat×Nat)×List Nat)(nx:Nat)(v:Value)(M:aA):Prop:= ∃E,v=aD E 0 x.2.length (x.2.length+1)/\nx<=E/\M.get E=some ⟨dG x.1.1 (nV x.2) (fun _=>0) x.2.length,22,1,0,true⟩
instance:AQ Lw:=⟨fun hE ⟨E,h1,h2,h3⟩=>⟨E,h1,h2,hE _ _ h3⟩⟩
def rB(a:eL)(vs:List Int):List Int:=((List.range 801).map (bk (gX a vs) (fun j=>(vs[j]?).getD 0) vs.length)).flatten
theorem rD(a:eL)(vs:List Int):(gH a vs).length=801:=by simp [gH]
theorem Ff{a:eL}(h:pY a)(vs:List Int):dN (nV (gH a vs)) 801=vs.length:=by
 rw[Ca (d:=iH (gX a vs) vs.length) fun v hv=>xG hv]
 exact sG (gX a vs) 801 vs.length fun j _=>by have:=rX h ((vs[j]?).getD 0);unfold gX;omega
theorem Sj{α β:Type}(L:List Nat)(key:Nat->Nat)(item:Nat->α)(f:α->β)(k:Nat):(L.map (bk key (fun j=>f (item j)) k)).flatten=((L.map (bk key item k)).flatten).map f:=by
 induction L with
 |nil=>rfl
 |cons d L ih=>simp only [List.map_cons,List.flatten_cons,List.map_append,ih,Ks]
theorem Ok{a:eL}{vs:List Int}{mem:List Value}(h:Bk (nV (gH a vs)) 801 (gX a vs) (fun j=>i64 ((vs[j]?).getD 0)) vs.length mem):mem=(rB a vs).map i64:=
 (h.whole fun v hv=>(xG hv).symm).trans (Sj _ _ _ _ _)
theorem Vl{α:Type}(key:Nat->Nat)(item:Nat->α)(k m:Nat):((List.range m).map (bk key item k)).flatten.length=dN (iH key k) m:=by
 induction m with
 |zero=>rfl
 |succ m ih=>
  rw[List.range_succ,List.map_append,List.flatten_append,List.length_append,ih]
  show _+(bk _ _ _ _++ []).length=dN _ m+iH _ _ m
  rw[List.append_nil,uN]
theorem zE{a:eL}(ha:pY a)(vs:List Int):(rB a vs).length=vs.length:=
 (Vl _ _ _ _).trans (sG (gX a vs) 801 vs.length fun j _=>by have:=rX ha ((vs[j]?).getD 0);unfold gX;omega)
def cR(n:Nat)(l:List E4):List Int:=rB (iQ n l) (dF (iQ n l) n)
end Go.Am
end

noncomputable section
namespace Go.Am
open Go
def eD(ty:TypeId)(x:Nat×List E4)(v:Value)(M:aA):Prop:= ∃b L,v=pt b 0/\M.get b=some ⟨[i64 ((x.1:Nat):Int),L],ty,2,0,true⟩/\aV x.2 L M
instance(ty:TypeId):AP (eD ty):=⟨fun{x y _ _} ⟨b,L,h1,h2,h3⟩ ⟨c,K,k1,k2,k3⟩=>by
 rw[h1] at k1
 simp only [Value.pointer.injEq,Option.some.injEq,Addr.mk.injEq,and_true] at k1
 subst k1
 rw[h2] at k2
 simp only [Option.some.injEq,aW.mk.injEq,List.cons.injEq,and_true] at k2
 obtain⟨e1,rfl⟩:=k2
 have e2:=AP.uniq (R:=aV) h3 k3
 obtain⟨a,b⟩:=x;obtain⟨c,d⟩:=y
 have h4:a=c:=by have:((a:Nat):Int)=((c:Nat):Int):=by simpa [i64] using e1
                 omega
 have h5:b=d:=e2
 rw[h4,h5],fun hE ⟨b,L,h1,h2,h3⟩=>⟨b,L,h1,hE _ _ h2,AP.ext (R:=aV) hE h3⟩⟩
def bQ(k:tK)(l:List E4)(v:Int)(i:Nat):List Int:=(List.range i).filterMap fun j=>match l[j]? with
 |some e=>if dB k e=v then some ((j:Nat):Int) else none
 |none=>none
theorem sJ(k:tK){l:List E4}(v:Int){i:Nat}{e:E4}(h:l[i]?=some e):bQ k l v (i+1)=bQ k l v i++(if dB k e=v then[((i:Nat):Int)] else[]):=by
 unfold bQ
 rw[List.range_succ,List.filterMap_append]
 by_cases hh:dB k e=v<;>simp [h,hh]
theorem jP(k:tK)(l:List E4)(v:Int)(i:Nat):(bQ k l v i).length<=i:=by
 have:=List.length_filterMap_le (fun j:Nat=>match l[j]? with
  |some e=>if dB k e=v then some ((j:Nat):Int) else none
  |none=>none) (List.range i)
 simpa [bQ] using this
theorem oZ{k:tK}{n:Nat}{l:List E4}{v:Int}(hv:0<=v/\v<(n:Int))(hb: ∀x∈l.map (dB k),0<=x/\x<(n:Int)):dH (lM n (l.map (dB k))) v=bQ k l v l.length:=by
 unfold dH
 rw[if_pos hv.1]
 have h1:(lM n (l.map (dB k)))[v.toNat]?=some (bk (eG (l.map (dB k))) (fun j=>((j:Nat):Int)) (l.map (dB k)).length v.toNat):=by
  unfold lM
  rw[List.getElem?_map,List.getElem?_range (by omega)];rfl
 rw[h1,Option.getD_some,List.length_map]
 have: ∀i,i<=l.length->bk (eG (l.map (dB k))) (fun j=>((j:Nat):Int)) i v.toNat=bQ k l v i:=fun i=>by
  induction i with
  |zero=>intro _;rfl
  |succ i ih=>
   intro hi
   have he:l[i]?=some l[i]:=List.getElem?_eq_getElem (by omega)
   rw[sP,sJ k v he,ih (by omega)]
   have hbi:=hb (dB k l[i]) (List.mem_map.2 ⟨l[i],List.getElem_mem _,rfl⟩)
   have hk:eG (l.map (dB k)) i=(dB k l[i]).toNat:=by rw[zS (by simp;omega)];simp
   rw[hk]
   by_cases hh:dB k l[i]=v
   ·rw[if_pos hh,if_pos (by rw[hh])]
   ·rw[if_neg hh,if_neg (by omega)]
 exact this _ (Nat.le_refl _)
def aQ(l:List E4)(v:Int)(i:Nat):Int:=(l.take i).foldl (fun s e=>if e.f=v\/e.t=v then yY s (tN e.m) else s) 0
theorem pL{l:List E4}(v:Int){i:Nat}{e:E4}(h:l[i]?=some e):aQ l v (i+1)=if e.f=v\/e.t=v then yY (aQ l v i) (tN e.m) else aQ l v i:=by
 obtain⟨hi,rfl⟩:=List.getElem?_eq_some_iff.1 h
 unfold aQ
 rw[List.take_succ_eq_append_getElem hi,List.foldl_append]
 rfl
def Yy(s:Int):Int:=IntKind.wrap .i64 (IntKind.wrap .i64 (IntKind.wrap .i64 (IntKind.wrap .i64 (IntKind.wrap .i64 ((0:Int)+fZ (s.fdiv (2^(0:Int).toNat)) (1:Int))+fZ (s.fdiv (2^(1:Int).toNat)) (1:Int))+fZ (s.fdiv (2^(2:Int).toNat)) (1:Int))+fZ (s.fdiv (2^(3:Int).toNat)) (1:Int))+fZ (s.fdiv (2^(4:Int).toNat)) (1:Int))
def pW(l:List E4)(v:Int):Bool:=decide (Yy (aQ l v l.length)>=(2:Int))
def gA(l:List E4)(n:Nat):List Bool:=(List.range n).map fun v=>pW l ((v:Nat):Int)
theorem Iu(l:List E4)(i:Nat):gA l (i+1)=gA l i++ [pW l ((i:Nat):Int)]:=by simp [gA,List.range_succ]
def Om(M0 M:aA)(S:Value)(l:List Bool):Prop:=(S=cI/\l= [])\/ ∃b,S=aD b 0 l.length l.length/\l≠ []/\M0.next<=b/\M.get b=some ⟨l.map .bool,4,1,0,true⟩
theorem Om.new{M0 M:aA}{S:Value}{l:List Bool}{n:Nat}(h:Om M0 M S l)(hl:l.length<=9223372036854775807)(hn:n<=M0.next):qY l S (hid n M):=by
 rcases h with⟨rfl,rfl⟩|⟨b,rfl,_,h3,h4⟩
 ·exact aK.nil none
 ·exact aK.of_blk' (iZ (by omega) h4) rfl (vX l).symm (fun _ _=>rfl) hl
def lK(l:List E4)(v:Int):Nat:=(bQ .fr l v l.length).length+(bQ .to l v l.length).length
def gY(l:List E4)(d i:Nat):List Int:=(List.range i).filterMap fun v=>if pW l ((v:Nat):Int)=false/\lK l ((v:Nat):Int)=d then some ((v:Nat):Int) else none
theorem zA(l:List E4)(d i:Nat):gY l d (i+1)=gY l d i++(if pW l ((i:Nat):Int)=false/\lK l ((i:Nat):Int)=d then[((i:Nat):Int)] else[]):=by
 unfold gY
 rw[List.range_succ,List.filterMap_append]
 by_cases h:pW l ((i:Nat):Int)=false/\lK l ((i:Nat):Int)=d<;>simp [h]
theorem Cj(l:List E4)(d i:Nat):(gY l d i).length<=i:=by
 have:=List.length_filterMap_le (fun v:Nat=>if pW l ((v:Nat):Int)=false/\lK l ((v:Nat):Int)=d then some ((v:Nat):Int) else none) (List.range i)
 simpa [gY] using this
def jU(l:List E4)(n d:Nat):List Int:=((List.range d).map fun k=>gY l k n).flatten
theorem nB(l:List E4)(n d:Nat):jU l n (d+1)=jU l n d++gY l d n:=by simp [jU,List.range_succ]
theorem yZ(l:List E4)(n d:Nat):(jU l n d).length<=d*n:=by
 induction d with
 |zero=>simp [jU]
 |succ d ih=>
  rw[nB,List.length_append,Nat.succ_mul]
  have:=Cj l d n
  omega
def vB(n:Nat)(l:List E4):List Int:=jU l n (2*l.length+1)
end Go.Am
end

noncomputable section
namespace Go.Am
open Go
theorem Gs{x y:Int}(hx:0<=x/\x<32)(hy:0<=y/\y<32)(k:Nat):(yY x y).toNat.testBit k=(x.toNat.testBit k||y.toNat.testBit k):=by
 rw[(Cd hx hy).1,Int.toNat_natCast,Nat.testBit_or]
theorem Js(m:Int)(k:Nat):(tN m).toNat.testBit k=decide (m.toNat=k):=by
 unfold tN
 rw[Int.toNat_natCast,Nat.testBit_two_pow]
theorem Fg{set:List Int}(hs: ∀z∈set,0<=z/\z<32)(es:List Int)(k:Nat):(eO set es).toNat.testBit k=es.any fun j=>((set[j.toNat]?).getD 0).toNat.testBit k:=by
 unfold eO
 have hz: ∀e:Int,0<=((set[e.toNat]?).getD 0)/\((set[e.toNat]?).getD 0)<32:=fun e=>by
  cases hh:set[e.toNat]? with
  |none=>simp
  |some z=>exact hs z (List.mem_of_getElem? hh)
 have: ∀(es:List Int) (s:Int),0<=s/\s<32->(es.foldl (fun s i=>yY s ((set[i.toNat]?).getD 0)) s).toNat.testBit k=(s.toNat.testBit k||es.any fun j=>((set[j.toNat]?).getD 0).toNat.testBit k):=fun es=>by
  induction es with
  |nil=>intro s _;simp
  |cons e es ih=>
   intro s h
   rw[List.foldl_cons,ih _ (Cd h (hz e)).2,Gs h (hz e),List.any_cons,Bool.or_assoc]
 rw[this es 0 (by omega)]
 simp
theorem lL{l:List E4}(hok: ∀e∈l,Dc e)(v:Int): ∀i,i<=l.length->0<=aQ l v i/\aQ l v i<32
 |0,_=>by unfold aQ;simp
 |i+1,h=>by
  have ih:=lL hok v i (by omega)
  have he:l[i]?=some l[i]:=List.getElem?_eq_getElem (by omega)
  rw[pL v he]
  split
  ·exact(Cd ih (vF (hok _ (List.getElem_mem _)).1 (hok _ (List.getElem_mem _)).2)).2
  ·exact ih
theorem wI{l:List E4}(hok: ∀e∈l,Dc e)(v:Int)(k:Nat): ∀i,i<=l.length->((aQ l v i).toNat.testBit k=true↔ ∃j e,j<i/\l[j]?=some e/\(e.f=v\/e.t=v)/\e.m.toNat=k)
 |0,_=>by unfold aQ;simp
 |i+1,h=>by
  have ih:=wI hok v k i (by omega)
  have he:l[i]?=some l[i]:=List.getElem?_eq_getElem (by omega)
  have hm:=hok _ (List.getElem_mem (show i<l.length by omega))
  have hx:(∃j e,j<i+1/\l[j]?=some e/\(e.f=v\/e.t=v)/\e.m.toNat=k)↔(∃j e,j<i/\l[j]?=some e/\(e.f=v\/e.t=v)/\e.m.toNat=k)\/((l[i].f=v\/l[i].t=v)/\l[i].m.toNat=k):=by
   constructor
   ·rintro⟨j,e,h1,h2,h3⟩
    by_cases hj:j=i
    ·subst hj;rw[he] at h2;cases h2;exact .inr h3
    ·exact .inl ⟨j,e,by omega,h2,h3⟩
   ·rintro(⟨j,e,h1,h2,h3⟩|h3)
    ·exact⟨j,e,by omega,h2,h3⟩
    ·exact⟨i,_,by omega,he,h3⟩
  rw[hx,<-ih,pL v he]
  by_cases hv:l[i].f=v\/l[i].t=v
  ·rw[if_pos hv,Gs (lL hok v i (by omega)) (vF hm.1 hm.2),Js]
   simp [hv]
  ·rw[if_neg hv]
   simp [hv]
theorem qZ{k:tK}{l:List E4}{v:Int}{i:Nat}{x:Int}:x∈bQ k l v i↔ ∃j e,j<i/\l[j]?=some e/\dB k e=v/\x=((j:Nat):Int):=by
 unfold bQ
 simp only [List.mem_filterMap,List.mem_range]
 constructor
 ·rintro⟨j,h1,h2⟩
  cases he:l[j]? with
  |none=>rw[he] at h2;cases h2
  |some e=>
   rw[he] at h2
   simp only at h2
   by_cases hh:dB k e=v
   ·rw[if_pos hh] at h2;exact⟨j,e,h1,he,hh,(Option.some.inj h2).symm⟩
   ·rw[if_neg hh] at h2;cases h2
 ·rintro⟨j,e,h1,h2,h3,rfl⟩
  exact⟨j,h1,by rw[h2];simp [h3]⟩
theorem Qr{n:Nat}{l:List E4}(h:eP ((n:Nat):Int) l=true){v:Int}(hv:0<=v/\v<(n:Int)):jN (iQ n l) v=aQ l v l.length:=by
 obtain⟨_,_,h3,h4⟩:=eZ h
 have hok: ∀e∈l,Dc e:=fun e he=>(h4 e he).2.2.2.2
 have ha:=Jg h
 have r1:=qV ha v
 have r2:=lL hok v l.length (Nat.le_refl _)
 have e1:dH (iQ n l).out v=bQ .fr l v l.length:=oZ hv (mF h (by simp))
 have e2:dH (iQ n l).inn v=bQ .to l v l.length:=oZ hv (mF h (by simp))
 have u1:=nH ha.2.2.2 (dH (iQ n l).out v)
 have u2:=nH ha.2.2.2 (dH (iQ n l).inn v)
 have key:(jN (iQ n l) v).toNat=(aQ l v l.length).toNat:=by
  apply Nat.eq_of_testBit_eq
  intro k
  rw[Bool.eq_iff_iff,wI hok v k _ (Nat.le_refl _)]
  unfold jN
  rw[Gs u1 u2,Fg ha.2.2.2,Fg ha.2.2.2,e1,e2]
  simp only [Bool.or_eq_true,List.any_eq_true]
  have hset: ∀(j:Nat) (e:E4),l[j]?=some e->(((iQ n l).set[((j:Nat):Int).toNat]?).getD 0).toNat.testBit k=decide (e.m.toNat=k):=fun j e he=>by
   show(((l.map (dB .set))[((j:Nat):Int).toNat]?).getD 0).toNat.testBit k=_
   rw[Int.toNat_natCast,List.getElem?_map,he]
   exact Js e.m k
  constructor
  ·rintro(⟨x,hx,hb⟩|⟨x,hx,hb⟩)
   ·obtain⟨j,e,q1,q2,q3,rfl⟩:=qZ.1 hx
    rw[hset j e q2] at hb
    exact⟨j,e,q1,q2,.inl q3,of_decide_eq_true hb⟩
   ·obtain⟨j,e,q1,q2,q3,rfl⟩:=qZ.1 hx
    rw[hset j e q2] at hb
    exact⟨j,e,q1,q2,.inr q3,of_decide_eq_true hb⟩
  ·rintro⟨j,e,q1,q2,q3|q3,q4⟩
   ·exact .inl ⟨_,qZ.2 ⟨j,e,q1,q2,q3,rfl⟩,by rw[hset j e q2];exact decide_eq_true q4⟩
   ·exact .inr ⟨_,qZ.2 ⟨j,e,q1,q2,q3,rfl⟩,by rw[hset j e q2];exact decide_eq_true q4⟩
 omega
theorem Tm{s:Int}(h:0<=s/\s<32):decide (Yy s>=(2:Int))=decide (((Gu s.toNat:Nat):Int)>=2):=by
 have key: ∀k:Fin 32,decide (Yy ((k.val:Nat):Int)>=(2:Int))=decide (((Gu k.val:Nat):Int)>=2):=by decide+kernel
 have:=key ⟨s.toNat,by omega⟩
 simp only at this
 rw[Int.toNat_of_nonneg h.1] at this
 exact this
theorem Su{n:Nat}{l:List E4}(h:eP ((n:Nat):Int) l=true){v:Int}(hv:0<=v/\v<(n:Int)):jB (iQ n l) v=pW l v:=by
 unfold jB pW
 rw[Qr h hv]
 obtain⟨_,_,_,h4⟩:=eZ h
 exact(Tm (lL (fun e he=>(h4 e he).2.2.2.2) v l.length (Nat.le_refl _))).symm
theorem Vf{n:Nat}{l:List E4}(h:eP ((n:Nat):Int) l=true){v:Int}(hv:0<=v/\v<(n:Int)):dE (iQ n l) v=lK l v:=by
 have e1:dH (iQ n l).out v=bQ .fr l v l.length:=oZ hv (mF h (by simp))
 have e2:dH (iQ n l).inn v=bQ .to l v l.length:=oZ hv (mF h (by simp))
 unfold dE lK
 rw[e1,e2]
theorem Fa(l:List E4)(v:Int):lK l v<=2*l.length:=by
 have h1:=jP .fr l v l.length
 have h2:=jP .to l v l.length
 unfold lK;omega
theorem Nf(f:Int->Nat)(vs:List Int)(d:Nat):bk (fun j=>f ((vs[j]?).getD 0)) (fun j=>(vs[j]?).getD 0) vs.length d=vs.filter fun x=>decide (f x=d):=by
 have: ∀i,i<=vs.length->bk (fun j=>f ((vs[j]?).getD 0)) (fun j=>(vs[j]?).getD 0) i d=(vs.take i).filter fun x=>decide (f x=d):=fun i=>by
  induction i with
  |zero=>intro _;rfl
  |succ i ih=>
   intro hi
   rw[sP,ih (by omega),List.take_succ_eq_append_getElem (by omega),List.filter_append,List.getElem?_eq_getElem (by omega)]
   simp only [Option.getD_some]
   by_cases hh:f vs[i]=d<;>simp [hh]
 rw[this _ (Nat.le_refl _),List.take_length]
theorem Bb{α β:Type}{f g:α->Option β}: ∀{l:List α},(∀x∈l,f x=g x)->l.filterMap f=l.filterMap g
 | [],_=>rfl
 |x::l,h=>by
  rw[List.filterMap_cons,List.filterMap_cons,h x (List.mem_cons_self ..),Bb fun y hy=>h y (List.mem_cons_of_mem _ hy)]
theorem Ce{n:Nat}{l:List E4}(h:eP ((n:Nat):Int) l=true):cR n l=vB n l:=by
 obtain⟨_,_,h3,_⟩:=eZ h
 have hd: ∀d,bk (gX (iQ n l) (dF (iQ n l) n)) (fun j=>((dF (iQ n l) n)[j]?).getD 0) (dF (iQ n l) n).length d=gY l d n:=fun d=>by
  rw[show gX (iQ n l) (dF (iQ n l) n)=fun j=>dE (iQ n l) (((dF (iQ n l) n)[j]?).getD 0) from rfl,Nf]
  unfold dF gY
  rw[List.filter_filterMap]
  refine Bb fun v hv=> ?_
  have hvn:0<=((v:Nat):Int)/\((v:Nat):Int)<(n:Int):=by have:=List.mem_range.1 hv;omega
  rw[Su h hvn]
  cases hl:pW l ((v:Nat):Int) with
  |true=>simp
  |false=>
   have:=Vf h hvn
   by_cases hdd:lK l ((v:Nat):Int)=d
   ·simp [this,hdd,Option.filter]
   ·simp [this,hdd,Option.filter]
 have hnil: ∀d,2*l.length<d->gY l d n= []:=fun d a0=>by
  unfold gY
  rw[List.filterMap_eq_nil_iff]
  intro v _
  have:=Fa l ((v:Nat):Int)
  rw[if_neg (by omega)]
 have hto: ∀k,jU l n (2*l.length+1+k)=jU l n (2*l.length+1):=fun k=>by
  induction k with
  |zero=>rfl
  |succ k ih=>rw[show 2*l.length+1+(k+1)=(2*l.length+1+k)+1 by omega,nB,ih,hnil _ (by omega),List.append_nil]
 unfold cR rB vB
 rw[<-hto (801-(2*l.length+1)),show 2*l.length+1+(801-(2*l.length+1))=801 by omega]
 exact congrArg List.flatten (List.map_congr_left fun d _=>hd d)
end Go.Am
end
