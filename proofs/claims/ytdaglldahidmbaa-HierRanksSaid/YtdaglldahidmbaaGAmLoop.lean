/-
  Package hier: each of its laws for every argument; no conditions. The last text states which.
-/
import Derived.Test.YtdaglldahidmbaaAmMem
import Derived.LoopN
import Derived.Test.YtdaglldahidmbaaGAmTop
import Derived.Test.YtdaglldahidmbaaGAmEq
import Derived.IntWalk
import Derived.KernelRfl
import Derived.ChangeSlices
import Derived.WideKeyArgs
import Derived.ChangeSame
import Derived.Deep.DeepHandedRow
import Derived.OpenShut
import Derived.ProofKit
set_option linter.unusedVariables false
set_option linter.unusedSimpArgs false
noncomputable section
namespace Go.Am
open Go
abbrev lU:=List (Nat×Nat×Bool)
def jE:lU->Nat->Option Nat
 | [],_=>none
 |(t,s,_)::l,n=>bif Nat.beq s n then some t else jE l n
def mJ(ρ:lU)(a:Addr):Option Addr:=
 match a.spot,jE ρ a.block with
 |none,some t=>some ⟨t,a.off,none⟩
 |_,_=>none
mutual
def lT(ρ:lU):Value->Option Value
 | .pointer (some a)=>match mJ ρ a with|some a=>some (.pointer (some a))|none=>none
 | .slice (some a) l c=>match mJ ρ a with|some a=>some (.slice (some a) l c)|none=>none
 | .func fn first captured=>bif mI fn then none else match Dt ρ first,Dt ρ captured with|some x,some y=>some (.func fn ⟨x⟩ ⟨y⟩)|_,_=>none
 | .iface t v=>match lT ρ v with|some v=>some (.iface t v)|none=>none
 | .agg cs=>match Dt ρ cs with|some x=>some (.agg ⟨x⟩)|none=>none
 | .tuple vs=>match Dt ρ vs with|some x=>some (.tuple ⟨x⟩)|none=>none
 |v=>bif leaf v then some v else none
def Dt(ρ:lU):Array Value->Option (List Value)
 |⟨l⟩=>jW ρ l
def jW(ρ:lU):List Value->Option (List Value)
 | []=>some []
 |v::l=>match lT ρ v,jW ρ l with|some v,some l=>some (v::l)|_,_=>none
end
variable{P:Program}{GL:List Nat}{B:Bd}
theorem zB{ρ:lU}{φ ψ:dC}(h: ∀s t,jE ρ s=some t-> ∀e,φ s=some e->ψ t=some e){a b:Addr}(hr:mJ ρ a=some b):
  b.spot=none/\b.off=a.off/\ ∀e,φ a.block=some e->ψ b.block=some e:=by
 unfold mJ at hr
 split at hr
 ·rename_i t hs ht
  cases hr
  exact⟨rfl,rfl,h _ _ ht⟩
 ·cases hr
theorem Oi(ρ:lU): ∀v,leaf v=true->lT ρ v=some v
 | .bool _,_=>rfl
 | .int _ _,_=>rfl
 | .float _ _,_=>rfl
 | .complex _ _ _,_=>rfl
 | .string _,_=>rfl
 | .pointer none,_=>rfl
 | .pointer (some _),h=>by simp [leaf] at h
 | .slice none 0 0,_=>rfl
 | .slice none (_+1) _,h=>by simp [leaf] at h
 | .slice none 0 (_+1),h=>by simp [leaf] at h
 | .slice (some _) _ _,h=>by simp [leaf] at h
 | .map none,_=>rfl
 | .map (some _),h=>by simp [leaf] at h
 | .chan none,_=>rfl
 | .chan (some _),h=>by simp [leaf] at h
 | .func _ _ _,h=>by simp [leaf] at h
 | .nilFunc,_=>rfl
 | .iface _ _,h=>by simp [leaf] at h
 | .nilIface,_=>rfl
 | .agg _,h=>by simp [leaf] at h
 | .tuple _,h=>by simp [leaf] at h
mutual
theorem mQ{ρ:lU}{φ ψ:dC}(h: ∀s t,jE ρ s=some t-> ∀e,φ s=some e->ψ t=some e): ∀{v v' u:Value},bA φ v v'->lT ρ v=some u->bA ψ u v'
 |v,_,u,.leaf hl,hr=>by
  rw[Oi ρ v hl] at hr
  cases hr;exact .leaf hl
 |_,_,u,.ptr ha,hr=>by
  simp only [lT] at hr
  split at hr
  ·rename_i b hb
   cases hr
   obtain⟨h1,h2,h3⟩:=zB h hb
   obtain⟨k1,k2,e,k3,k4,k5⟩:=ha
   exact .ptr ⟨h1,k2,e,h3 e k3,k4,by rw[h2];exact k5⟩
  ·cases hr
 |_,_,u,.slice hs,hr=>by
  simp only [lT] at hr
  split at hr
  ·rename_i b hb
   cases hr
   obtain⟨h1,h2,h3⟩:=zB h hb
   obtain⟨k1,k2,k3,k4,e,k5,k6⟩:=hs
   exact .slice ⟨h1,k2,k3,k4,e,h3 e k5,by rw[h2];exact k6⟩
  ·cases hr
 |_,_,u,.hollow hs,hr=>by
  simp only [lT,mJ] at hr
  split at hr
  ·rename_i b hb
   split at hb
   ·rename_i h0 _
    exact absurd h0 hs
   ·cases hb
  ·cases hr
 |_,_,u,.func hf hx hy,hr=>by
  simp only [lT,Dt,hf,cond_false] at hr
  split at hr
  ·rename_i x y h1 h2
   cases hr
   exact .func hf (oG h hx h1) (oG h hy h2)
  ·cases hr
 |_,_,u,.yld _,hr=>by
  simp only [lT,mI,cond_true] at hr
  cases hr
 |_,_,u,.iface hv,hr=>by
  simp only [lT] at hr
  split at hr
  ·rename_i x h1
   cases hr
   exact .iface (mQ h hv h1)
  ·cases hr
 |_,_,u,.agg hl,hr=>by
  simp only [lT,Dt] at hr
  split at hr
  ·rename_i x h1
   cases hr
   exact .agg (oG h hl h1)
  ·cases hr
 |_,_,u,.tuple hl,hr=>by
  simp only [lT,Dt] at hr
  split at hr
  ·rename_i x h1
   cases hr
   exact .tuple (oG h hl h1)
  ·cases hr
theorem oG{ρ:lU}{φ ψ:dC}(h: ∀s t,jE ρ s=some t-> ∀e,φ s=some e->ψ t=some e): ∀{l l' k:List Value},bU φ l l'->jW ρ l=some k->bU ψ k l'
 |_,_,k,.nil,hr=>by
  simp only [jW,Option.some.injEq] at hr
  subst hr;exact .nil
 |_,_,k,.cons hv hl,hr=>by
  simp only [jW] at hr
  split at hr
  ·rename_i x y h1 h2
   cases hr
   exact .cons (mQ h hv h1) (oG h hl h2)
  ·cases hr
end
theorem eX{ρ:lU}: ∀{l k:List Value},jW ρ l=some k->k.length=l.length
 | [],k,h=>by simp only [jW,Option.some.injEq] at h;subst h;rfl
 |v::l,k,h=>by
  simp only [jW] at h
  split at h
  ·rename_i x y h1 h2
   cases h
   simp [eX h2]
  ·cases h
theorem sK{ρ:lU}: ∀{l k:List Value},jW ρ l=some k-> ∀{j:Nat} {u:Value},k[j]?=some u-> ∃v,l[j]?=some v/\lT ρ v=some u
 | [],k,h,j,u,hu=>by simp only [jW,Option.some.injEq] at h;subst h;simp at hu
 |v::l,k,h,j,u,hu=>by
  simp only [jW] at h
  split at h
  ·rename_i x y h1 h2
   cases h
   cases j with
   |zero=>simp at hu;subst hu;exact⟨v,rfl,h1⟩
   |succ j=>simp at hu;obtain⟨v',h3,h4⟩:=sK h2 hu;exact⟨v',by simpa using h3,h4⟩
  ·cases h
mutual
theorem Fb(ρ:lU): ∀v,flat v=true->lT ρ v=some v
 | .bool _,_=>rfl
 | .int _ _,_=>rfl
 | .float _ _,_=>rfl
 | .complex _ _ _,_=>rfl
 | .string _,_=>rfl
 | .pointer none,_=>rfl
 | .pointer (some _),h=>by simp [flat] at h
 | .slice none l c,h=>by
  simp [flat] at h
  obtain⟨rfl,rfl⟩:=h
  rfl
 | .slice (some _) _ _,h=>by simp [flat] at h
 | .map none,_=>rfl
 | .map (some _),h=>by simp [flat] at h
 | .chan none,_=>rfl
 | .chan (some _),h=>by simp [flat] at h
 | .func _ ⟨x⟩ ⟨y⟩,h=>by
  simp [flat,mT] at h
  simp only [lT,Dt,h.1,cond_false,jX ρ x h.2.1,jX ρ y h.2.2]
 | .nilFunc,_=>rfl
 | .iface _ v,h=>by simp only [lT,Fb ρ v (by simpa [flat] using h)]
 | .nilIface,_=>rfl
 | .agg ⟨x⟩,h=>by simp only [lT,Dt,jX ρ x (by simpa [flat,mT] using h)]
 | .tuple ⟨x⟩,h=>by simp only [lT,Dt,jX ρ x (by simpa [flat,mT] using h)]
theorem jX(ρ:lU): ∀l,cX l=true->jW ρ l=some l
 | [],_=>rfl
 |v::l,h=>by
  simp [cX] at h
  simp only [jW,Fb ρ v h.1,jX ρ l h.2]
end
def Nv(n:Nat):List Nat->Bool
 | []=>false
 |x::l=>Nat.beq n x||Nv n l
theorem Ix{n:Nat}: ∀{l:List Nat},Nv n l=true↔n∈l
 | []=>by simp [Nv]
 |x::l=>by simp [Nv,Ix (l:=l)]
def hQ:List Nat->Bool
 | []=>true
 |x::l=> !Nv x l&&hQ l
theorem qG{t:Nat}: ∀{mv:lU} {s:Nat},jE mv s=some t-> ∃fl,(t,s,fl)∈mv
 | [],_,h=>by cases h
 |(t',s',fl)::mv,s,h=>by
  simp only [jE] at h
  cases hb:Nat.beq s' s<;>simp only [hb,cond_true,cond_false] at h
  ·obtain⟨fl',h'⟩:=qG h
   exact⟨fl',List.mem_cons_of_mem _ h'⟩
  ·have:s'=s:=Nat.eq_of_beq_eq_true hb
   cases h;subst this
   exact⟨fl,List.mem_cons_self ..⟩
end Go.Am
end

noncomputable section
namespace Go.Am
open Go
variable{P:Program}{GL:List Nat}{B:Bd}
def xC(id:Nat):cH->cH
 | .exit i=>bif Nat.beq i id then .normal else .exit i
 |e=>e
end Go.Am
end

noncomputable section
namespace Go.Am
open Go
variable{P:Program}{GL:List Nat}{B:Bd}{φ:dC}{w:World}
def mY:List (Nat×aW)->Tr aW
 | []=> .nil
 |(i,b)::l=>(mY l).set i (some b)
theorem kQ: ∀{l:List (Nat×aW)} {id:Nat} {b:aW},(mY l).get id=some b->(id,b)∈l
 | [],id,b,h=>by simp [mY,Tr.get] at h
 |(i,c)::l,id,b,h=>by
  unfold mY at h
  rw[Tr.get_set] at h
  by_cases hi:id=i
  ·rw[if_pos hi] at h
   cases h;subst hi
   exact List.mem_cons_self ..
  ·rw[if_neg hi] at h
   exact List.mem_cons_of_mem _ (kQ h)
def cE(l:List (Nat×aW))(next:Nat):aA:=⟨mY l,next,[],[]⟩
structure Fm(P:Program)(GL:List Nat)(φ:dC)(l:List (Nat×aW))(next:Nat)(w:World):Prop where
 blk: ∀p∈l,∃e,φ p.1=some e/\lV P w.heap.size φ w e p.2
 ro: ∀p∈l,p.2.app=false/\p.2.wf=p.2.cs.length
 glob: ∀g∈GL,g<next/\ ∃e,φ g=some e/\e.block=g/\e.base=0
 fresh: ∀id,next<=id->φ id=none
theorem Fm.rel{l:List (Nat×aW)}{next:Nat}(h:Fm P GL φ l next w):gI P GL w.heap.size φ (cE l next) w:=by
 have hm: ∀id b,(cE l next).getA id=some b->(id,b)∈l:=fun id b hb=>kQ (bK.1 hb).2.2
 refine⟨fun id b hb=>let ⟨e,h1,h2⟩:=h.blk _ (hm id b hb);⟨e,h1,.inl h2⟩,fun a b c d e f _ h1 _ hw=> ?_,h.glob,fun k hk=>Tw hk,fun id b hb=>(bK.1 hb).1,fun x hx=>by cases hx⟩
 obtain⟨h2,h3⟩:=h.ro _ (hm a c h1)
 simp only at h2 h3
 rw[h2,h3] at hw
 rcases hw with hw|hw
 ·cases hw
 ·exact absurd hw (Nat.lt_irrefl _)
theorem lV.part{b off:Nat}{c:Array Value}{elem:TypeId}{fr:Nat×Nat}{cs:List Value}{esz:Nat}(hc:w.heap[b]?=some (.cells c elem fr))(ho:off+cs.length<=c.size)
  (hs: ∀j v,cs[j]?=some v-> ∃v',c[off+j]?=some v'/\bA φ v v') (hz:esz=0->cs= []:=by intro h;exact absurd h (by decide)) (hm:off=0\/off<c.size\/esz≠oB:=by first|exact .inl rfl|exact .inr (.inr (by decide))):
  lV P w.heap.size φ w ⟨b,off,c.size-off,esz⟩ ⟨cs,elem,esz,cs.length,false⟩:=by
 refine⟨rfl,⟨c,fr.1,fr.2,hc,by simp only;omega,hs,fun hw=> ?_⟩,by simp only;omega,fun hw=> ?_,?_,fun⟨x1,x2,x3⟩=> ?_⟩
 ·rcases hw with hw|hw
  ·cases hw
  ·exact absurd hw (Nat.lt_irrefl _)
 ·rcases hw with hw|hw
  ·cases hw
  ·exact absurd hw (Nat.lt_irrefl _)
 ·exact fun h1 h2=>absurd (hz h1) h2
 ·simp only at x1 x2 x3
  rcases hm with hm|hm|hm
  ·omega
  ·omega
  ·exact hm x3
end Go.Am
end

noncomputable section
namespace Go.Am
open Go
variable{P:Program}{GL:List Nat}{B:Bd}
end Go.Am
end

namespace Go.Am
open Go
variable{P:Program}{GL:List Nat}{B:Bd}
theorem yA: ∀{l:List Value} {n:Nat},l.length=n->dA n l=some l
 | [],n,h=>by subst h;rfl
 |v::l,n,h=>by
  subst h
  simp only [List.length_cons,dA]
  rw[yA rfl]
theorem wP: ∀(a b:List Value),dA a.length (a++b)=some a
 | [],b=>rfl
 |v::a,b=>by
  simp only [List.length_cons,List.cons_append,dA]
  rw[wP a b]
theorem jR: ∀(l:List Value) (n:Nat) (v:Value),n<l.length->splice l n [v]=l.set n v
 | [],n,v,h=>absurd h (Nat.not_lt_zero _)
 |c::l,0,v,_=>by cases l<;>rfl
 |c::l,n+1,v,h=>by
  show c::splice l n [v]=_
  rw[jR l n v (by simpa using h)]
  rfl
end Go.Am

namespace Go.Am
open Go
variable{P:Program}{GL:List Nat}{B:Bd}
end Go.Am

noncomputable section
namespace Go.Am
open Go
variable{P:Program}{GL:List Nat}{B:Bd}
end Go.Am
end

noncomputable section
namespace Go.Am
open Go
variable{P:Program}{GL:List Nat}{B:Bd}
theorem sI: ∀{l:List aW} {n:Nat} {T:Tr aW} {id:Nat},(wH l n T).get id=if n<=id/\id<n+l.length then l[id-n]? else T.get id
 | [],n,T,id=>by
  simp only [wH,List.length_nil]
  rw[if_neg (by omega)]
 |b::l,n,T,id=>by
  simp only [wH,List.length_cons]
  rw[sI,Tr.get_set]
  by_cases h1:id=n
  ·subst h1
   rw[if_neg (by omega),if_pos rfl,if_pos (by omega)]
   simp
  ·rw[if_neg h1]
   by_cases h2:n+1<=id/\id<n+1+l.length
   ·rw[if_pos h2,if_pos (by omega)]
    rw[show id-n=(id-(n+1))+1 by omega]
    simp
   ·rw[if_neg h2,if_neg (by omega)]
theorem vE: ∀{l:List (Nat×Option aW)} {T:Tr aW} {id:Nat},id∉l.map (·.1)->(xY l T).get id=T.get id
 | [],_,_,_=>rfl
 |(i,b)::l,T,id,h=>by
  simp only [List.map_cons,List.mem_cons,not_or] at h
  simp only [xY]
  rw[Tr.get_set,if_neg h.1,vE h.2]
theorem Fd: ∀{l:List (Nat×Option aW)} {T:Tr aW} {id:Nat},id∈l.map (·.1)->(id,(xY l T).get id)∈l
 | [],_,_,h=>by cases h
 |(i,b)::l,T,id,h=>by
  simp only [xY]
  rw[Tr.get_set]
  by_cases hi:id=i
  ·subst hi;rw[if_pos rfl];exact List.mem_cons_self ..
  ·rw[if_neg hi]
   simp only [List.map_cons,List.mem_cons] at h
   exact List.mem_cons_of_mem _ (Fd (h.resolve_left hi))
def pX:Nat->List Nat->lU
 |_,[]=> []
 |j,a::l=>(j,a,false)::pX (j+1) l
def oD(src:List Nat):List Nat->lU
 | []=> []
 |j::l=>((src[j]?).getD 0,j,false)::oD src l
def kT:Nat->List Nat->lU
 |_,[]=> []
 |n,s::l=>(n,s,false)::kT (n+1) l
theorem Bw: ∀{src:List Nat} {j t s:Nat} {fl:Bool},(t,s,fl)∈pX j src->j<=t/\src[t-j]?=some s
 | [],_,_,_,_,h=>by cases h
 |a::l,j,t,s,fl,h=>by
  simp only [pX] at h
  rcases List.mem_cons.1 h with h|h
  ·cases h;simp
  ·obtain⟨h1,h2⟩:=Bw h
   refine⟨by omega,?_⟩
   rw[show t-j=(t-(j+1))+1 by omega]
   simpa using h2
theorem xU{src:List Nat}: ∀{l:List Nat} {t s:Nat} {fl:Bool},(t,s,fl)∈oD src l->s∈l/\t=(src[s]?).getD 0
 | [],_,_,_,h=>by cases h
 |j::l,t,s,fl,h=>by
  simp only [oD] at h
  rcases List.mem_cons.1 h with h|h
  ·cases h;exact⟨List.mem_cons_self ..,rfl⟩
  ·obtain⟨h1,h2⟩:=xU h
   exact⟨List.mem_cons_of_mem _ h1,h2⟩
theorem xS: ∀{l:List Nat} {n t s:Nat} {fl:Bool},(t,s,fl)∈kT n l->n<=t/\l[t-n]?=some s
 | [],_,_,_,_,h=>by cases h
 |a::l,n,t,s,fl,h=>by
  simp only [kT] at h
  rcases List.mem_cons.1 h with h|h
  ·cases h;simp
  ·obtain⟨h1,h2⟩:=xS h
   refine⟨by omega,?_⟩
   rw[show t-n=(t-(n+1))+1 by omega]
   simpa using h2
def cT(b:aW):Prop:=b.app=true\/b.wf<b.cs.length
theorem lE: ∀{l:List Nat} {i j a:Nat},hQ l=true->l[i]?=some a->l[j]?=some a->i=j
 | [],_,_,_,_,h,_=>by simp at h
 |x::l,i,j,a,hd,h,k=>by
  simp only [hQ,Bool.and_eq_true,Bool.not_eq_true'] at hd
  have no: ∀{n:Nat},l[n]?=some x->False:=fun hn=>by
   have:x∈l:=List.mem_of_getElem? hn
   rw[Ix.2 this] at hd
   cases hd.1
  cases i with
  |zero=>cases j with
   |zero=>rfl
   |succ j=>simp at h k;subst h;exact(no k).elim
  |succ i=>cases j with
   |zero=>simp at h k;subst k;exact(no h).elim
   |succ j=>
    simp at h k
    rw[lE hd.2 h k]
theorem nN.less{e1 e2:oO}{b1 b1' b2 b2':aW}(h:nN e1 b1 e2 b2)(h1:b1'.wf=b1.wf)(h2:b2'.app=b2.app)(h3:b2'.cs.length<=b2.cs.length)(h4:b2'.wf=b2.wf):nN e1 b1' e2 b2':=by
 unfold nN at h⊢
 rw[h1,h2,h4]
 rcases h with h|⟨k1,k2,k3,k4⟩
 ·exact .inl h
 ·exact .inr ⟨k1,k2,by omega,by omega⟩
structure Fk(P:Program)(f:FuncId)(args:List Value)(M:aA)(v:Value)(olds:List (Nat×Option aW))(news:List aW)(src:List Nat)(l:List (Nat×aW))(n:Nat)(SP:cZ)(args0:List Value)(v0:Value)(M0:aA)(keepJ newsS:List Nat):Prop where
 specs: ∀B,cJ P [] B SP
 run:arun P [] SP n f args0 (cE l src.length)=some (v0,M0)
 dist:hQ src=true
 blks: ∀p∈l,∃(a:Nat) (c:aW),src[p.1]?=some a/\M.get a=some c/\jW (pX 0 src) c.cs=some p.2.cs/\c={p.2 with cs:=c.cs}
 args:jW (pX 0 src) args=some args0
 wr: ∀t∈M0.log,t<src.length->(∃p∈l,p.1=t/\cT p.2)/\ ∃a:Nat,src[t]?=some a/\a∈olds.map (·.1)
 srcLt: ∀(j a:Nat),src[j]?=some a->a<M.next
 oldsIn: ∀a:Nat,a∈olds.map (·.1)-> ∃j:Nat,src[j]?=some a
 keep: ∀j∈keepJ,j<src.length
 oldS: ∀(a:Nat) (b:aW),(a,some b)∈olds-> ∃(j:Nat) (b0:aW),j∈keepJ/\src[j]?=some a/\M0.get j=some b0/\(∃r,jW (oD src keepJ++kT M.next newsS) b0.cs=some (b.cs++r))/\b={b0 with cs:=b.cs}
 newS: ∀(i:Nat) (b:aW),news[i]?=some b-> ∃(s:Nat) (b0:aW),newsS[i]?=some s/\M0.get s=some b0/\(∃r,jW (oD src keepJ++kT M.next newsS) b0.cs=some (b.cs++r))/\b={b0 with cs:=b.cs}
 newL:newsS.length=news.length
 newD:hQ newsS=true
 newO: ∀s∈newsS,s∉keepJ/\(s<src.length-> ∃a:Nat,src[s]?=some a/\a∈olds.map (·.1))
 val:lT (oD src keepJ++kT M.next newsS) v0=some v
 old0: ∀a∈olds.map (·.1),∀c,M.get a=some c->c.wf=0/\(c.app=true\/0<c.cs.length)
theorem aA.mut_get{M:aA}{olds:List (Nat×Option aW)}{news:List aW}{id:Nat}{b:aW}(h:(M.mut olds news).getA id=some b):
  (id<M.next/\id∉olds.map (·.1)/\M.getA id=some b)\/(id<M.next/\(id,some b)∈olds)\/(M.next<=id/\news[id-M.next]?=some b):=by
 obtain⟨h1,h2,h3⟩:=bK.1 h
 simp only [aA.mut] at h1 h2 h3
 rw[sI] at h3
 by_cases hn:M.next<=id
 ·rw[if_pos ⟨hn,h1⟩] at h3
  exact .inr (.inr ⟨hn,h3⟩)
 ·rw[if_neg (by omega)] at h3
  by_cases hm:id∈olds.map (·.1)
  ·have:=Fd (T:=M.blks) hm
   rw[h3] at this
   exact .inr (.inl ⟨by omega,this⟩)
  ·rw[vE hm] at h3
   exact .inl ⟨by omega,hm,bK.2 ⟨by omega,h2,h3⟩⟩
theorem aA.mut_abs{M:aA}{olds:List (Nat×Option aW)}{news:List aW}(ho: ∀a∈olds.map (·.1),a<M.next):kX M (M.mut olds news) (olds.map (·.1)):=
 ⟨rfl,Nat.le_add_right _ _,rfl,fun id hid hn=>by
  simp only [aA.mut]
  rw[sI,if_neg (by omega),vE hn],fun t ht=>Nat.lt_of_lt_of_le (ho t ht) (Nat.le_add_right _ _)⟩
theorem Fk.calls(hN:dU P)(hm:P.follows .mixedOrders=true){f:FuncId}{args:List Value}{M:aA}{v:Value}{olds:List (Nat×Option aW)}{news:List aW}{src:List Nat}{l:List (Nat×aW)}{n:Nat}{SP:cZ}{args0:List Value}{v0:Value}{M0:aA}{keepJ newsS:List Nat}
  (hF:Fk P f args M v olds news src l n SP args0 v0 M0 keepJ newsS) {φ:dC} {w:World} (hR:gI P GL B φ M w) (hG:iX φ M (M.mut olds news)) {args':Array Value} (ha:bU φ args args'.toList):
  Calls P f args' w fun e w'=> ∃L φ' v',e= .returned v'/\(M.mut olds news).log=L++M.log/\Post P GL B φ φ' M (M.mut olds news) L w w'/\bA φ' v v':=by
 have ho: ∀a∈olds.map (·.1),a<M.next:=fun a h=>by
  obtain⟨j,hj⟩:=hF.oldsIn a h
  exact hF.srcLt j a hj
 let φs:dC:=fun j=>match src[j]? with
  |some a=>φ a
  |none=>none
 have hφs: ∀{j a:Nat},src[j]?=some a->φs j=φ a:=fun hj=>by simp only [φs,hj]
 have hfar: ∀{j:Nat} {e:oO},φs j=some e->j<src.length:=fun{j e} h=>by
  by_cases hh:j<src.length
  ·exact hh
  ·simp only [φs] at h
   rw[List.getElem?_eq_none (by omega)] at h;cases h
 have a8: ∀s t,jE (pX 0 src) s=some t-> ∀e,φ s=some e->φs t=some e:=fun s t h e he=>by
  obtain⟨fl,hmem⟩:=qG h
  have:=(Bw hmem).2
  rw[Nat.sub_zero] at this
  rw[hφs this];exact he
 have a6: ∀{id b},(cE l src.length).getA id=some b->(id,b)∈l:=fun hb=>kQ (bK.1 hb).2.2
 have a5: ∀{p:Nat×aW} {c:aW},jW (pX 0 src) c.cs=some p.2.cs->c={p.2 with cs:=c.cs}->(cT p.2↔cT c):=fun{p c} h1 h2=>by
  unfold cT
  have:=eX h1
  rw[this,h2]
 have b9:gI P [] B.flat φs (cE l src.length) w:=by
  refine⟨fun id b hb=> ?_,fun a4 b5 b1 b2 e1 e2 hne a9 b3 hw a0 a3=> ?_,fun g hg=>(by cases hg),fun k hk=>Bd.flat_ok.2 (hR.size k hk),fun id b hb=>(bK.1 hb).1,fun x hx=>by cases hx⟩
  ·obtain⟨a,c,h1,h2,h3,h4⟩:=hF.blks _ (a6 hb)
   simp only at h1 h3 h4
   obtain⟨e,he,hr⟩:=hR.blk a c h2
   refine⟨e,by rw[hφs h1];exact he,.inl ⟨?_,?_,by rw[eX h3];exact hr.len,fun hw=>Bd.flat_ok.2 (hr.own ?_),fun q1 q2=>hr.whole (by rw[h4];exact q1) fun q3=>q2 (List.eq_nil_of_length_eq_zero (by have:=eX h3;rw[q3] at this;exact this)),hr.real⟩⟩
   ·rw[hr.esz,h4]
   ·obtain⟨cc,lo,hi,k1,k2,k3,k4⟩:=hr.cells
    refine⟨cc,lo,hi,by rw[h4] at k1;exact k1,k2,fun j u hu=> ?_,fun hw=> ?_⟩
    ·obtain⟨u0,q1,q2⟩:=sK h3 hu
     obtain⟨u',q3,q4⟩:=k3 j u0 q1
     exact⟨u',q3,mQ a8 q4 q2⟩
    ·have:=k4 ((a5 (p:=(id,b)) h3 h4).1 hw)
     rw[h4] at this
     exact this
   ·exact(a5 (p:=(id,b)) h3 h4).1 hw
  ·obtain⟨a1,c1,h1,h2,h3,h4⟩:=hF.blks _ (a6 a9)
   obtain⟨a2,c2,k1,k2,k3',k4'⟩:=hF.blks _ (a6 b3)
   simp only at h1 h3 h4 k1
   rw[hφs h1] at a0
   rw[hφs k1] at a3
   refine(hR.sep a1 a2 c1 c2 e1 e2 (fun he=> ?_) h2 k2 ((a5 (p:=(a4,b1)) h3 h4).1 hw) a0 a3).congr (by rw[h4]) (by rw[k4']) (by rw[eX k3']) (by rw[k4'])
   subst he
   exact hne (lE hF.dist h1 k1)
 have c0:bU φs args0 args'.toList:=oG a8 ha hF.args
 have b7:iX φs (cE l src.length) M0:=fun id h1 _=>by
  simp only [φs]
  rw[List.getElem?_eq_none h1]
 have hokc:=qO hN hm (hF.specs B.flat) n hF.run b9 b7 args' c0
 obtain⟨L0,hA⟩:=vP hN hm (hF.specs B.flat) n f args0 (cE l src.length) v0 M0 hF.run
 have b8:M0.log=L0:=by
  have:=hA.log
  simpa [cE] using this
 refine hokc.mono fun e w' ⟨Ls,φs',v',he,hlog,hp,hv'⟩=> ?_
 have hLs:M0.log=Ls:=by rw[hlog];simp [cE]
 let mv:=oD src keepJ++kT M.next newsS
 let φ':dC:=fun id=>if id<M.next then φ id else match newsS[id-M.next]? with
  |some s=>φs' s
  |none=>φ id
 have hold: ∀{id:Nat},id<M.next->φ' id=φ id:=fun hid=>by simp only [φ'];rw[if_pos hid]
 have hnew: ∀{id s:Nat},M.next<=id->newsS[id-M.next]?=some s->φ' id=φs' s:=fun{id s} h1 h2=>by
  simp only [φ'];rw[if_neg (by omega),h2]
 have hsame: ∀{j:Nat},j<src.length->φs' j=φs j:=fun hj=>hp.ext _ (.inl hj)
 have hlt: ∀{id:Nat} {b:aW} {e:oO},M.getA id=some b->φ id=some e->e.block<w.heap.size:=fun{id b e} hb he=>by
  obtain⟨e',k1,hr⟩:=hR.blkA id b hb
  rw[k1] at he
  obtain rfl:=Option.some.inj he
  exact hr.lt
 --what is logged is one of the caller's blocks that may be turned
 have hlogd: ∀{t:Nat} {e0:oO},t∈Ls->φs t=some e0-> ∃a c,src[t]?=some a/\a∈olds.map (·.1)/\M.get a=some c/\cT c/\φ a=some e0:=fun{t e0} ht b6=>by
  obtain⟨⟨p,h1,h2,h3⟩,a,h4,h5⟩:=hF.wr t (by rw[hLs];exact ht) (hfar b6)
  obtain⟨a',c,k1,k2,k3,k4⟩:=hF.blks p h1
  rw[h2,h4] at k1;cases k1
  exact⟨a,c,h4,h5,k2,(a5 k3 k4).1 h3,by rw[<-hφs h4];exact b6⟩
 --a block of the run that the caller had
 have hhad: ∀{s:Nat} {b0:aW},s<src.length->M0.get s=some b0-> ∃a c,src[s]?=some a/\M.get a=some c/\(cT b0->cT c):=fun{s b0} hs c3=>by
  by_cases hin:s∈M0.log
  ·obtain⟨⟨p,h1,h2,h3⟩,_⟩:=hF.wr s hin hs
   obtain⟨a,c,k1,k2,k3,k4⟩:=hF.blks p h1
   rw[h2] at k1
   exact⟨a,c,k1,k2,fun _=>(a5 k3 k4).1 h3⟩
  ·have hk:=hA.keep s hs (by rw[<-b8];exact hin)
   have hmem:=kQ (show(mY l).get s=some b0 by rw[<-(bR.1 c3).2.2.1];exact hk.symm)
   obtain⟨a,c,k1,k2,k3,k4⟩:=hF.blks _ hmem
   exact⟨a,c,k1,k2,(a5 (p:=(s,b0)) k3 k4).1⟩
 have hmv: ∀{t s:Nat} {fl:Bool},(t,s,fl)∈mv-> ∀e,φs' s=some e->φ' t=some e:=fun{t s fl} hmem e he=>by
  rcases List.mem_append.1 hmem with hmem|hmem
  ·obtain⟨h1,h2⟩:=xU hmem
   have hs:=hF.keep s h1
   have hsa:src[s]?=some src[s]:=List.getElem?_eq_getElem hs
   rw[hsa] at h2
   simp only [Option.getD_some] at h2
   subst h2
   rw[hsame hs,hφs hsa] at he
   have:src[s]<M.next:=hF.srcLt s _ hsa
   rw[hold this];exact he
  ·obtain⟨h1,h2⟩:=xS hmem
   rw[hnew h1 h2];exact he
 have hle:φ.le φ':=fun id e he=>by
  by_cases h1:id<M.next
  ·rw[hold h1];exact he
  ·by_cases h2:id<(M.mut olds news).next
   ·rw[hG id (by omega) h2] at he;cases he
   ·have h3:newsS[id-M.next]?=none:=by
     rw[List.getElem?_eq_none_iff,hF.newL]
     simp only [aA.mut] at h2
     omega
    simp only [φ']
    rw[if_neg h1,h3]
    exact he
 have hrenO: ∀s t,jE mv s=some t-> ∀e,φs' s=some e->φ' t=some e:=fun s t h e he=>by
  obtain⟨fl,hmem⟩:=qG h
  exact hmv hmem e he
 --each block of the memory behind:an old one,untouched;or one of the run's
 have hcls: ∀{id:Nat} {b:aW},(M.mut olds news).getA id=some b->(id<M.next/\id∉olds.map (·.1)/\M.getA id=some b)\/
   ∃(s:Nat) (b0:aW),M0.get s=some b0/\(∃r,jW mv b0.cs=some (b.cs++r))/\b={b0 with cs:=b.cs}/\φ' id=φs' s/\((id<M.next/\s∈keepJ/\src[s]?=some id/\id∈olds.map (·.1))\/(M.next<=id/\newsS[id-M.next]?=some s)):=fun{id b} hb=>by
  rcases aA.mut_get hb with h|⟨h1,h2⟩|⟨h1,h2⟩
  ·exact .inl h
  ·obtain⟨j,b0,k1,k2,k3,k4,k5⟩:=hF.oldS id b h2
   refine .inr ⟨j,b0,k3,k4,k5,?_,.inl ⟨h1,k1,k2,List.mem_map.2 ⟨_,h2,rfl⟩⟩⟩
   rw[hold h1,hsame (hF.keep j k1),hφs k2]
  ·obtain⟨s,b0,k1,k2,k3,k4⟩:=hF.newS _ b h2
   exact .inr ⟨s,b0,k2,k3,k4,hnew h1 k1,.inr ⟨h1,k1⟩⟩
 have a7: ∀{b b0:aW},(∃r,jW mv b0.cs=some (b.cs++r))->b={b0 with cs:=b.cs}->cT b->cT b0:=fun{b b0} ⟨r,h1⟩ h2 hw=>by
  unfold cT at hw⊢
  have:=eX h1
  rw[List.length_append] at this
  rw[h2] at hw
  simp only at hw
  rcases hw with hw|hw
  ·exact .inl hw
  ·exact .inr (by omega)
 --an old untouched block lies apart from what the run has,if one of them may be turned
 have hap: ∀{a4 s:Nat} {b1 b0:aW} {e1 e2:oO},a4<M.next->a4∉olds.map (·.1)->M.getA a4=some b1->M0.get s=some b0->(s<src.length-> ∃a,src[s]?=some a/\a∈olds.map (·.1))->(cT b1\/cT b0)->φ a4=some e1->φs' s=some e2->e1.block≠e2.block:=fun{a4 s b1 b0 e1 e2} h1 h2 h3 h4 h5 hw a0 a3=>by
  by_cases hs:s<src.length
  ·obtain⟨a,k1,k2⟩:=h5 hs
   obtain⟨a',c,q1,q2,q3⟩:=hhad hs h4
   rw[k1] at q1;cases q1
   rw[hsame hs,hφs k1] at a3
   have hne:a4≠a:=fun he=>h2 (he▸k2)
   rcases hw with hw|hw
   ·obtain⟨z1,z2⟩:=hF.old0 a k2 c q2
    exact(hR.sepA a4 a b1 c e1 e2 hne h3 (fX q2) hw a0 a3).ne (by rw[z1];exact z2)
   ·exact fun he=>(hR.sepA a a4 c b1 e2 e1 (Ne.symm hne) (fX q2) h3 (q3 hw) a3 a0).ne0 (hF.old0 a k2 c q2).1 he.symm
  ·have b4:s<M0.next:=(bR.1 h4).1
   rcases hp.newb s e2 (by simpa [cE] using Nat.le_of_not_lt hs) b4 a3 with k1|⟨t,k1,e0,k2,k3⟩
   ·have:=hlt h3 a0
    omega
   ·obtain⟨a,c,q1,q2,q3,q4,q5⟩:=hlogd k1 k2
    have hne:a4≠a:=fun he=>h2 (he▸q2)
    rw[<-k3]
    exact fun he=>(hR.sepA a a4 c b1 e0 e1 (Ne.symm hne) (fX q3) h3 q4 q5 a0).ne0 (hF.old0 a q2 c q3).1 he.symm
 refine⟨olds.map (·.1),φ',v',he,rfl,⟨fun id hid=> ?_,Nat.le_add_right _ _,⟨fun id b hb=> ?_,fun a4 b5 b1 b2 e1 e2 hne a9 b3 hw a0 a3=> ?_,fun g hg=> ?_,fun k c4=>hR.size k (Nat.le_trans hp.fr.size c4),fun id b hb=>(bK.1 hb).1,fun x hx=>(hR.rnd x hx).step hle (by
   rcases hp.fr.block x.l (hR.rnd x hx).lt with q|⟨q,_⟩
   ·exact q
   ·exact absurd rfl ((Bd.flat_ok.1 q).2.2 x hx))⟩,
  ⟨hp.fr.os,hp.fr.tape,hp.fr.output,hp.fr.size,fun k hk=> ?_⟩,fun id e h1 h2 hid=> ?_,fun t ht=>Nat.lt_of_lt_of_le (ho t ht) (Nat.le_add_right _ _)⟩,mQ hrenO hv' hF.val⟩
 ·rcases hid with hid|hid
  ·exact hold hid
  ·have h3:newsS[id-M.next]?=none:=by
    rw[List.getElem?_eq_none_iff,hF.newL]
    simp only [aA.mut] at hid
    omega
   simp only [φ']
   simp only [aA.mut] at hid
   rw[if_neg (by omega),h3]
 ·rcases hcls hb with⟨h1,h2,h3⟩|⟨s,b0,h1,h2,h3,h4,_⟩
  ·obtain⟨e,k1,hr⟩:=hR.blkA id b h3
   refine⟨e,by rw[hold h1];exact k1,hr.keep hle ?_⟩
   rcases hp.fr.block e.block (hlt h3 k1) with q|⟨_,t,q1,e0,q2,q3⟩
   ·exact q
   ·obtain⟨a,c',r1,r2,r3,r4,r5⟩:=hlogd q1 q2
    exact absurd q3 ((hR.sepA a id c' b e0 e (fun he=>h2 (he▸r2)) (fX r3) h3 r4 r5 k1).ne0 (hF.old0 a r2 c' r3).1)
  ·obtain⟨e,k1,hr⟩:=hp.rel.blk s b0 h1
   refine⟨e,by rw[h4];exact k1,.inl ⟨by rw[h3];exact hr.esz,?_,(by
    obtain⟨r,h2⟩:=h2
    have:=eX h2
    rw[List.length_append] at this
    have:=hr.len
    omega),fun hw=>Bd.flat_ok.1 (hr.own (a7 h2 h3 hw)),fun q1 q2=>hr.whole (by rw[h3] at q1;exact q1) fun q3=>q2 (by
     obtain⟨r,h2⟩:=h2
     have:=eX h2
     rw[q3] at this
     exact List.eq_nil_of_length_eq_zero (by simp only [List.length_append,List.length_nil] at this;omega)),hr.real⟩⟩
   obtain⟨c,lo,hi,k2,k3,k4,k5⟩:=hr.cells
   refine⟨c,lo,hi,by rw[h3];exact k2,k3,fun j u hu=> ?_,fun hw=> ?_⟩
   ·obtain⟨r,h2⟩:=h2
    obtain⟨u0,q1,q2⟩:=sK h2 (j:=j) (u:=u) (by
     have hj:j<b.cs.length:=by
      by_cases hh:j<b.cs.length
      ·exact hh
      ·rw[List.getElem?_eq_none (by omega)] at hu;cases hu
     rw[List.getElem?_append_left hj]
     exact hu)
    obtain⟨u',q3,q4⟩:=k4 j u0 q1
    exact⟨u',q3,mQ hrenO q4 q2⟩
   ·have:=k5 (a7 h2 h3 hw)
    rw[h3];exact this
 ·rcases hcls a9 with⟨h1,h2,h3⟩|⟨s1,c1,h1,h2,h3,h4,h5⟩<;>rcases hcls b3 with⟨k1,k2,k3⟩|⟨s2,c2,k1,k2,k3,k4,k5⟩
  ·rw[hold h1] at a0
   rw[hold k1] at a3
   exact hR.sepA a4 b5 b1 b2 e1 e2 hne h3 k3 hw a0 a3
  ·rw[hold h1] at a0
   rw[k4] at a3
   refine .inl (hap h1 h2 h3 k1 (fun hs=> ?_) (.inl hw) a0 a3)
   rcases k5 with⟨_,_,q3,q4⟩|⟨_,q2⟩
   ·exact⟨b5,q3,q4⟩
   ·exact(hF.newO s2 (List.mem_of_getElem? q2)).2 hs
  ·rw[hold k1] at a3
   rw[h4] at a0
   refine .inl (fun he=>hap k1 k2 k3 h1 (fun hs=> ?_) (.inr (a7 h2 h3 hw)) a3 a0 he.symm)
   rcases h5 with⟨_,_,q3,q4⟩|⟨_,q2⟩
   ·exact⟨a4,q3,q4⟩
   ·exact(hF.newO s1 (List.mem_of_getElem? q2)).2 hs
  ·rw[h4] at a0
   rw[k4] at a3
   refine(hp.rel.sep s1 s2 c1 c2 e1 e2 (fun hs=> ?_) h1 k1 (a7 h2 h3 hw) a0 a3).less (by rw[h3]) (by rw[k3]) (by
    obtain⟨r,k2⟩:=k2
    have:=eX k2
    rw[List.length_append] at this
    omega) (by rw[k3])
   subst hs
   rcases h5 with⟨_,q2,q3,_⟩|⟨q1,q2⟩<;>rcases k5 with⟨_,r2,r3,_⟩|⟨r1,r2⟩
   ·rw[q3] at r3;cases r3;exact hne rfl
   ·exact(hF.newO s1 (List.mem_of_getElem? r2)).1 q2
   ·exact(hF.newO s1 (List.mem_of_getElem? q2)).1 r2
   ·have:=lE hF.newD q2 r2
    exact hne (by omega)
 ·obtain⟨h1,e,h2,h3⟩:=hR.glob g hg
  exact⟨Nat.lt_of_lt_of_le h1 (Nat.le_add_right _ _),e,by rw[hold h1];exact h2,h3⟩
 ·rcases hp.fr.block k hk with h1|⟨h1,t,h2,e0,h3,h4⟩
  ·exact .inl h1
  ·obtain⟨a,c,r1,r2,r3,r4,r5⟩:=hlogd h2 h3
   exact .inr ⟨Bd.flat_ok.1 h1,a,r2,e0,r5,h4⟩
 ·have h1':M.next<=id:=h1
  have h2':id<M.next+news.length:=h2
  cases hs:newsS[id-M.next]? with
  |none=>
   rw[List.getElem?_eq_none_iff,hF.newL] at hs
   omega
  |some s=>
   rw[hnew h1' hs] at hid
   have hO:=hF.newO s (List.mem_of_getElem? hs)
   by_cases hsl:s<src.length
   ·obtain⟨a,q1,q2⟩:=hO.2 hsl
    rw[hsame hsl,hφs q1] at hid
    exact .inr ⟨a,q2,e,hid,rfl⟩
   ·have b4:s<M0.next:=by
     obtain⟨s',b0,q1,q2,_⟩:=hF.newS (id-M.next) (news[id-M.next]'(by omega)) (List.getElem?_eq_getElem (by omega))
     rw[hs] at q1
     obtain rfl:=Option.some.inj q1
     exact(bR.1 q2).1
    rcases hp.newb s e (by simpa [cE] using Nat.le_of_not_lt hsl) b4 hid with q1|⟨t,q1,e0,q2,q3⟩
    ·exact .inl q1
    ·obtain⟨a,c,r1,r2,r3,r4,r5⟩:=hlogd q1 q2
     exact .inr ⟨a,r2,e0,r5,q3⟩
theorem cV.ofMut(hN:dU P)(hm:P.follows .mixedOrders=true){f:FuncId}{g:List Value->aA->Option (Value×aA)}
  (h: ∀args M v M',g args M=some (v,M')-> ∃olds news src l n SP args0 v0 M0 keepJ newsS,M'=M.mut olds news/\Fk P f args M v olds news src l n SP args0 v0 M0 keepJ newsS):cV P GL B f g:=by
 refine⟨fun args M v M' hg=> ?_,fun args M v M' hg φ w hR hG args' ha=> ?_⟩
 ·obtain⟨olds,news,src,l,n,SP,args0,v0,M0,keepJ,newsS,rfl,hF⟩:=h args M v M' hg
  exact⟨_,aA.mut_abs fun a ha=>by
   obtain⟨j,hj⟩:=hF.oldsIn a ha
   exact hF.srcLt j a hj⟩
 ·obtain⟨olds,news,src,l,n,SP,args0,v0,M0,keepJ,newsS,rfl,hF⟩:=h args M v M' hg
  exact hF.calls hN hm hR hG ha
end Go.Am
namespace Go.Am
open Go
end Go.Am
namespace Go.Am
open Go
variable{P:Program}{GL:List Nat}{B:Bd}
end Go.Am
end

noncomputable section
namespace Go.Am
open Go
variable{P:Program}{GL:List Nat}{B:Bd}
abbrev i64(z:Int):Value:= .int .i64 z
abbrev pt(b o:Nat):Value:= .pointer (some ⟨b,o,none⟩)
def aC(x n:Int):Int:=if x.tmod n<0 then x.tmod n+n else x.tmod n
theorem iM{x n:Int}(hn:0<n):0<=aC x n/\aC x n<n:=by
 have hlt:x.tmod n<n:=Int.tmod_lt_of_pos x hn
 have hgt: -n<x.tmod n:=Int.lt_tmod_of_pos x hn
 unfold aC
 split<;>omega
theorem Qp{x n:Int}(hn:0<n)(hn2:n<2^62)(h:x.tmod n<0):IntKind.wrap .i64 (x.tmod n+n)=aC x n:=by
 have hgt: -n<x.tmod n:=Int.lt_tmod_of_pos x hn
 rw[IntWalk.i64_in _ (by omega)]
 unfold aC;rw[if_pos h]
theorem Qq{x n:Int}(h: ¬x.tmod n<0):x.tmod n=aC x n:=by
 unfold aC;rw[if_neg h]
end Go.Am
namespace Go.Am
open Go
end Go.Am
end

namespace Go.Am
open Go Go.ChangeShapes Go.WideShapes
variable{P:Program}{w:World}
theorem Jo{w':World}(h:Fl w w'){p:MemPlace}(hp:p.block<w.heap.size):w.sameAt w' p:=by
 cases p with
 |cell b off=>
  show w'.cell? _=w.cell? _
  unfold World.cell?
  rw[h.block b hp]
 |map b=>exact h.block b hp
theorem wQ{H:Type}{enc:TypeId×Value->H}{w':World}{base:Nat}(hl:laidOutB P=true)(hk:Fl w w'){sp:Nat->Bool}: ∀{ts:List TypeId} {vs:List Value} {ds:List (DataW H)} {ps:List MemPlace},
  (∀t∈ts,P.readableRec t=true/\t<P.types.size)->DataW.TrodAll enc P w base (fun _=>true) true ts vs ds ps->(∀p∈ps,p.block<w.heap.size)->(∀p∈ps,sp p.block=true)->DataW.TrodAll enc P w' base sp true ts vs ds ps
 | [],vs,ds,ps,_,h,_,_=>by
  obtain⟨rfl,rfl,rfl⟩:=trodAll_nil h
  exact trodAll_mk0
 |t::ts,vs,ds,ps,ht,h,hp,hs=>by
  obtain⟨v,a1,d,a0,p,q,rfl,rfl,rfl,h1,h2⟩:=trodAll_cons h
  refine⟨p,q,?_,wQ hl hk (fun t h=>ht t (List.mem_cons_of_mem _ h)) h2 (fun x hx=>hp x (List.mem_append_right _ hx)) (fun x hx=>hs x (List.mem_append_right _ hx)),rfl⟩
  exact Go.WideElems.Trod_stays hl (ht t (List.mem_cons_self ..)).1 (ht t (List.mem_cons_self ..)).2 h1 (fun x hx=>Jo hk (hp x (List.mem_append_left _ hx))) (fun x hx=>hs x (List.mem_append_left _ hx))
end Go.Am

noncomputable section
namespace Go.Am
open Go Go.ChangeShapes Go.WideShapes Go.ChangeAt Go.RowKit
variable{P:Program}{GL:List Nat}{B:Bd}
section
variable{H:Type}{enc:TypeId×Value->H}{w:World}{held:Bool}
end
end Go.Am
namespace Go.Am
open Go
variable{P:Program}
end Go.Am
end
