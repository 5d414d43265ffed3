/-
  Package hier: each of its laws for every argument; no conditions. The last text states which.
-/
import Derived.Test.YtdaglldahidmbaaGreatAmMem
import Derived.LoopN
import Derived.Test.YtdaglldahidmbaaGreatGAmTop
import Derived.Test.YtdaglldahidmbaaGreatGAmEq
import Derived.IntWalk
import Derived.KernelRfl
import Derived.ChangeSlices
import Derived.WideKeyArgs
import Derived.ChangeSame
import Derived.Deep.DeepHandedRow
import Derived.OpenShut
import Derived.ProofKit
set_option linter.unusedVariables false
set_option linter.unusedSimpArgs false
noncomputable section
namespace Go.Am
open Go
abbrev mQ:=List (Nat×Nat×Bool)
def jV:mQ->Nat->Option Nat
 | [],_=>none
 |(t,s,_)::l,n=>bif Nat.beq s n then some t else jV l n
def nH(ρ:mQ)(a:Addr):Option Addr:=
 match a.spot,jV ρ a.block with
 |none,some t=>some ⟨t,a.off,none⟩
 |_,_=>none
mutual
def mP(ρ:mQ):Value->Option Value
 | .pointer (some a)=>match nH ρ a with|some a=>some (.pointer (some a))|none=>none
 | .slice (some a) l c=>match nH ρ a with|some a=>some (.slice (some a) l c)|none=>none
 | .func fn first captured=>bif nF fn then none else match Fj ρ first,Fj ρ captured with|some x,some y=>some (.func fn ⟨x⟩ ⟨y⟩)|_,_=>none
 | .iface t v=>match mP ρ v with|some v=>some (.iface t v)|none=>none
 | .agg cs=>match Fj ρ cs with|some x=>some (.agg ⟨x⟩)|none=>none
 | .tuple vs=>match Fj ρ vs with|some x=>some (.tuple ⟨x⟩)|none=>none
 |v=>bif leaf v then some v else none
def Fj(ρ:mQ):Array Value->Option (List Value)
 |⟨l⟩=>kV ρ l
def kV(ρ:mQ):List Value->Option (List Value)
 | []=>some []
 |v::l=>match mP ρ v,kV ρ l with|some v,some l=>some (v::l)|_,_=>none
end
variable{P:Program}{GL:List Nat}{B:Bd}
theorem As{ρ:mQ}{φ ψ:dX}(h:∀s t,jV ρ s=some t->∀e,φ s=some e->ψ t=some e){a b:Addr}(hr:nH ρ a=some b):
  b.spot=none/\b.off=a.off/\∀e,φ a.block=some e->ψ b.block=some e:=by
 unfold nH at hr
 split at hr
 ·rename_i t hs ht;cases hr;exact⟨rfl,rfl,h _ _ ht⟩
 ·cases hr
theorem Ra(ρ:mQ):∀v,leaf v=true->mP ρ v=some v
 | .bool _,_=>rfl
 | .int _ _,_=>rfl
 | .float _ _,_=>rfl
 | .complex _ _ _,_=>rfl
 | .string _,_=>rfl
 | .pointer none,_=>rfl
 | .pointer (some _),h=>by simp [leaf] at h
 | .slice none 0 0,_=>rfl
 | .slice none (_+1) _,h=>by simp [leaf] at h
 | .slice none 0 (_+1),h=>by simp [leaf] at h
 | .slice (some _) _ _,h=>by simp [leaf] at h
 | .map none,_=>rfl
 | .map (some _),h=>by simp [leaf] at h
 | .chan none,_=>rfl
 | .chan (some _),h=>by simp [leaf] at h
 | .func _ _ _,h=>by simp [leaf] at h
 | .nilFunc,_=>rfl
 | .iface _ _,h=>by simp [leaf] at h
 | .nilIface,_=>rfl
 | .agg _,h=>by simp [leaf] at h
 | .tuple _,h=>by simp [leaf] at h
mutual
theorem nQ{ρ:mQ}{φ ψ:dX}(h:∀s t,jV ρ s=some t->∀e,φ s=some e->ψ t=some e):∀{v v' u:Value},bH φ v v'->mP ρ v=some u->bH ψ u v'
 |v,_,u,.leaf hl,hr=>by
  rw[Ra ρ v hl] at hr;cases hr;exact .leaf hl
 |_,_,u,.ptr ha,hr=>by
  simp only [mP] at hr;split at hr
  ·rename_i b hb;cases hr;obtain⟨h1,h2,h3⟩:=As h hb;obtain⟨k1,k2,e,k3,k4,k5⟩:=ha;exact .ptr ⟨h1,k2,e,h3 e k3,k4,by rw[h2];exact k5⟩
  ·cases hr
 |_,_,u,.slice hs,hr=>by
  simp only [mP] at hr;split at hr
  ·rename_i b hb;cases hr;obtain⟨h1,h2,h3⟩:=As h hb;obtain⟨k1,k2,k3,k4,e,k5,k6⟩:=hs;exact .slice ⟨h1,k2,k3,k4,e,h3 e k5,by rw[h2];exact k6⟩
  ·cases hr
 |_,_,u,.hollow hs,hr=>by
  simp only [mP,nH] at hr;split at hr
  ·rename_i b hb;split at hb
   ·rename_i h0 _;exact absurd h0 hs
   ·cases hb
  ·cases hr
 |_,_,u,.func hf hx hy,hr=>by
  simp only [mP,Fj,hf,cond_false] at hr;split at hr
  ·rename_i x y h1 h2;cases hr;exact .func hf (pL h hx h1) (pL h hy h2)
  ·cases hr
 |_,_,u,.yld _,hr=>by
  simp only [mP,nF,cond_true] at hr;cases hr
 |_,_,u,.iface hv,hr=>by
  simp only [mP] at hr;split at hr
  ·rename_i x h1;cases hr;exact .iface (nQ h hv h1)
  ·cases hr
 |_,_,u,.agg hl,hr=>by
  simp only [mP,Fj] at hr;split at hr
  ·rename_i x h1;cases hr;exact .agg (pL h hl h1)
  ·cases hr
 |_,_,u,.tuple hl,hr=>by
  simp only [mP,Fj] at hr;split at hr
  ·rename_i x h1;cases hr;exact .tuple (pL h hl h1)
  ·cases hr
theorem pL{ρ:mQ}{φ ψ:dX}(h:∀s t,jV ρ s=some t->∀e,φ s=some e->ψ t=some e):∀{l l' k:List Value},cE φ l l'->kV ρ l=some k->cE ψ k l'
 |_,_,k,.nil,hr=>by
  simp only [kV,Option.some.injEq] at hr;subst hr;exact .nil
 |_,_,k,.cons hv hl,hr=>by
  simp only [kV] at hr;split at hr
  ·rename_i x y h1 h2;cases hr;exact .cons (nQ h hv h1) (pL h hl h2)
  ·cases hr
end
theorem fO{ρ:mQ}:∀{l k:List Value},kV ρ l=some k->k.length=l.length
 | [],k,h=>by simp only [kV,Option.some.injEq] at h;subst h;rfl
 |v::l,k,h=>by
  simp only [kV] at h;split at h
  ·rename_i x y h1 h2;cases h;simp [fO h2]
  ·cases h
theorem uF{ρ:mQ}:∀{l k:List Value},kV ρ l=some k->∀{j:Nat} {u:Value},k[j]?=some u->∃v,l[j]?=some v/\mP ρ v=some u
 | [],k,h,j,u,hu=>by simp only [kV,Option.some.injEq] at h;subst h;simp at hu
 |v::l,k,h,j,u,hu=>by
  simp only [kV] at h;split at h
  ·rename_i x y h1 h2;cases h;cases j with
   |zero=>simp at hu;subst hu;exact⟨v,rfl,h1⟩
   |succ j=>simp at hu;obtain⟨v',h3,h4⟩:=uF h2 hu;exact⟨v',by simpa using h3,h4⟩
  ·cases h
mutual
theorem Gs(ρ:mQ):∀v,flat v=true->mP ρ v=some v
 | .bool _,_=>rfl
 | .int _ _,_=>rfl
 | .float _ _,_=>rfl
 | .complex _ _ _,_=>rfl
 | .string _,_=>rfl
 | .pointer none,_=>rfl
 | .pointer (some _),h=>by simp [flat] at h
 | .slice none l c,h=>by
  simp [flat] at h;obtain⟨rfl,rfl⟩:=h;rfl
 | .slice (some _) _ _,h=>by simp [flat] at h
 | .map none,_=>rfl
 | .map (some _),h=>by simp [flat] at h
 | .chan none,_=>rfl
 | .chan (some _),h=>by simp [flat] at h
 | .func _ ⟨x⟩ ⟨y⟩,h=>by
  simp [flat,nZ] at h;simp only [mP,Fj,h.1,cond_false,kW ρ x h.2.1,kW ρ y h.2.2]
 | .nilFunc,_=>rfl
 | .iface _ v,h=>by simp only [mP,Gs ρ v (by simpa [flat] using h)]
 | .nilIface,_=>rfl
 | .agg ⟨x⟩,h=>by simp only [mP,Fj,kW ρ x (by simpa [flat,nZ] using h)]
 | .tuple ⟨x⟩,h=>by simp only [mP,Fj,kW ρ x (by simpa [flat,nZ] using h)]
theorem kW(ρ:mQ):∀l,dU l=true->kV ρ l=some l
 | [],_=>rfl
 |v::l,h=>by
  simp [dU] at h;simp only [kV,Gs ρ v h.1,kW ρ l h.2]
end
def Qm(n:Nat):List Nat->Bool
 | []=>false
 |x::l=>Nat.beq n x||Qm n l
theorem Kt{n:Nat}:∀{l:List Nat},Qm n l=true↔n∈l
 | []=>by simp [Qm]
 |x::l=>by simp [Qm,Kt (l:=l)]
def iR:List Nat->Bool
 | []=>true
 |x::l=> !Qm x l&&iR l
theorem rR{t:Nat}:∀{mv:mQ} {s:Nat},jV mv s=some t->∃fl,(t,s,fl)∈mv
 | [],_,h=>by cases h
 |(t',s',fl)::mv,s,h=>by
  simp only [jV] at h;cases hb:Nat.beq s' s<;>simp only [hb,cond_true,cond_false] at h
  ·obtain⟨a0,h'⟩:=rR h;exact⟨a0,List.mem_cons_of_mem _ h'⟩
  ·have:s'=s:=xBa hb;cases h;subst this;exact⟨fl,List.mem_cons_self ..⟩
end Go.Am
end

noncomputable section
namespace Go.Am
open Go
variable{P:Program}{GL:List Nat}{B:Bd}
def yR(id:Nat):cT->cT
 | .exit i=>bif Nat.beq i id then .normal else .exit i
 |e=>e
end Go.Am
end

noncomputable section
namespace Go.Am
open Go
variable{P:Program}{GL:List Nat}{B:Bd}{φ:dX}{w:World}
def oE:List (Nat×aR)->Tr aR
 | []=> .nil
 |(i,b)::l=>(oE l).set i (some b)
theorem lU:∀{l:List (Nat×aR)} {id:Nat} {b:aR},(oE l).get id=some b->(id,b)∈l
 | [],id,b,h=>by simp [oE,Tr.get] at h
 |(i,c)::l,id,b,h=>by
  unfold oE at h;rw[Tr.get_set] at h;by_cases hi:id=i
  ·rw[if_pos hi] at h;cases h;subst hi;exact List.mem_cons_self ..
  ·rw[if_neg hi] at h;exact List.mem_cons_of_mem _ (lU h)
def cR(l:List (Nat×aR))(next:Nat):aB:=⟨oE l,next,[],[]⟩
structure Hd(P:Program)(GL:List Nat)(φ:dX)(l:List (Nat×aR))(next:Nat)(w:World):Prop where
 blk:∀p∈l,∃e,φ p.1=some e/\mS P w.heap.size φ w e p.2
 ro:∀p∈l,p.2.app=false/\p.2.wf=p.2.cs.length
 glob:∀g∈GL,g<next/\∃e,φ g=some e/\e.block=g/\e.base=0
 fresh:∀id,next<=id->φ id=none
theorem Hd.rel{l:List (Nat×aR)}{next:Nat}(h:Hd P GL φ l next w):hI P GL w.heap.size φ (cR l next) w:=by
 have hm:∀id b,(cR l next).getA id=some b->(id,b)∈l:=fun id b hb=>lU (bN.1 hb).2.2
 refine⟨fun id b hb=>let ⟨e,h1,h2⟩:=h.blk _ (hm id b hb);⟨e,h1,.inl h2⟩,fun a b c d e f _ h1 _ hw=>?_,h.glob,fun k hk=>Xe hk,fun id b hb=>(bN.1 hb).1,fun x hx=>by cases hx⟩;obtain⟨h2,h3⟩:=h.ro _ (hm a c h1);simp only at h2 h3;rw[h2,h3] at hw;rcases hw with hw|hw
 ·cases hw
 ·exact absurd hw (Nat.lt_irrefl _)
theorem mS.part{b off:Nat}{c:Array Value}{elem:TypeId}{fr:Nat×Nat}{cs:List Value}{esz:Nat}(hc:w.heap[b]?=some (.cells c elem fr))(ho:off+cs.length<=c.size)
  (hs:∀j v,cs[j]?=some v->∃v',c[off+j]?=some v'/\bH φ v v') (hz:esz=0->cs=[]:=by intro h;exact absurd h (by decide)) (hm:off=0\/off<c.size\/esz≠nY:=by first|exact .inl rfl|exact .inr (.inr (by decide))):
  mS P w.heap.size φ w ⟨b,off,c.size-off,esz⟩ ⟨cs,elem,esz,cs.length,false⟩:=by
 refine⟨rfl,⟨c,fr.1,fr.2,hc,by simp only;omega,hs,fun hw=>?_⟩,by simp only;omega,fun hw=>?_,?_,fun⟨x1,x2,x3⟩=>?_⟩
 ·rcases hw with hw|hw
  ·cases hw
  ·exact absurd hw (Nat.lt_irrefl _)
 ·rcases hw with hw|hw
  ·cases hw
  ·exact absurd hw (Nat.lt_irrefl _)
 ·exact fun h1 h2=>absurd (hz h1) h2
 ·simp only at x1 x2 x3;rcases hm with hm|hm|hm
  ·omega
  ·omega
  ·exact hm x3
end Go.Am
end

noncomputable section
namespace Go.Am
open Go
variable{P:Program}{GL:List Nat}{B:Bd}
end Go.Am
end

namespace Go.Am
open Go
variable{P:Program}{GL:List Nat}{B:Bd}
theorem zQ:∀{l:List Value} {n:Nat},l.length=n->dJ n l=some l
 | [],n,h=>by subst h;rfl
 |v::l,n,h=>by
  subst h;simp only [List.length_cons,dJ];rw[zQ rfl]
theorem yF:∀(a b:List Value),dJ a.length (a++b)=some a
 | [],b=>rfl
 |v::a,b=>by
  simp only [List.length_cons,List.cons_append,dJ];rw[yF a b]
theorem jF:∀(l:List Value) (n:Nat) (v:Value),n<l.length->splice l n [v]=l.set n v
 | [],n,v,h=>absurd h (Nat.not_lt_zero _)
 |c::l,0,v,_=>by cases l<;>rfl
 |c::l,n+1,v,h=>by
  show c::splice l n [v]=_;rw[jF l n v (by simpa using h)];rfl
end Go.Am

namespace Go.Am
open Go
variable{P:Program}{GL:List Nat}{B:Bd}
end Go.Am

noncomputable section
namespace Go.Am
open Go
variable{P:Program}{GL:List Nat}{B:Bd}
end Go.Am
end

noncomputable section
namespace Go.Am
open Go
variable{P:Program}{GL:List Nat}{B:Bd}
theorem uB:∀{l:List aR} {n:Nat} {T:Tr aR} {id:Nat},(xU l n T).get id=if n<=id/\id<n+l.length then l[id-n]? else T.get id
 | [],n,T,id=>by
  simp only [xU,List.length_nil];rw[if_neg (by omega)]
 |b::l,n,T,id=>by
  simp only [xU,List.length_cons];rw[uB,Tr.get_set];by_cases h1:id=n
  ·subst h1;rw[if_neg (by omega),if_pos rfl,if_pos (by omega)];simp
  ·rw[if_neg h1];by_cases h2:n+1<=id/\id<n+1+l.length
   ·rw[if_pos h2,if_pos (by omega)];rw[show id-n=(id-(n+1))+1 by omega];simp
   ·rw[if_neg h2,if_neg (by omega)]
theorem wU:∀{l:List (Nat×Option aR)} {T:Tr aR} {id:Nat},id∉l.map (·.1)->(zM l T).get id=T.get id
 | [],_,_,_=>rfl
 |(i,b)::l,T,id,h=>by
  simp only [List.map_cons,List.mem_cons,not_or] at h;simp only [zM];rw[Tr.get_set,if_neg h.1,wU h.2]
theorem Gu:∀{l:List (Nat×Option aR)} {T:Tr aR} {id:Nat},id∈l.map (·.1)->(id,(zM l T).get id)∈l
 | [],_,_,h=>by cases h
 |(i,b)::l,T,id,h=>by
  simp only [zM];rw[Tr.get_set];by_cases hi:id=i
  ·subst hi;rw[if_pos rfl];exact List.mem_cons_self ..
  ·rw[if_neg hi];simp only [List.map_cons,List.mem_cons] at h;exact List.mem_cons_of_mem _ (Gu (h.resolve_left hi))
def rH:Nat->List Nat->mQ
 |_,[]=>[]
 |j,a::l=>(j,a,false)::rH (j+1) l
def pH(src:List Nat):List Nat->mQ
 | []=>[]
 |j::l=>((src[j]?).getD 0,j,false)::pH src l
def lX:Nat->List Nat->mQ
 |_,[]=>[]
 |n,s::l=>(n,s,false)::lX (n+1) l
theorem Dp:∀{src:List Nat} {j t s:Nat} {fl:Bool},(t,s,fl)∈rH j src->j<=t/\src[t-j]?=some s
 | [],_,_,_,_,h=>by cases h
 |a::l,j,t,s,fl,h=>by
  simp only [rH] at h;rcases List.mem_cons.1 h with h|h
  ·cases h;simp
  ·obtain⟨h1,h2⟩:=Dp h;refine⟨by omega,?_⟩;rw[show t-j=(t-(j+1))+1 by omega];simpa using h2
theorem zI{a0:List Nat}:∀{l:List Nat} {t s:Nat} {fl:Bool},(t,s,fl)∈pH a0 l->s∈l/\t=(a0[s]?).getD 0
 | [],_,_,_,h=>by cases h
 |j::l,t,s,fl,h=>by
  simp only [pH] at h;rcases List.mem_cons.1 h with h|h
  ·cases h;exact⟨List.mem_cons_self ..,rfl⟩
  ·obtain⟨h1,h2⟩:=zI h;exact⟨List.mem_cons_of_mem _ h1,h2⟩
theorem zH:∀{l:List Nat} {n t s:Nat} {fl:Bool},(t,s,fl)∈lX n l->n<=t/\l[t-n]?=some s
 | [],_,_,_,_,h=>by cases h
 |a::l,n,t,s,fl,h=>by
  simp only [lX] at h;rcases List.mem_cons.1 h with h|h
  ·cases h;simp
  ·obtain⟨h1,h2⟩:=zH h;refine⟨by omega,?_⟩;rw[show t-n=(t-(n+1))+1 by omega];simpa using h2
def dN(b:aR):Prop:=b.app=true\/b.wf<b.cs.length
theorem mE:∀{l:List Nat} {i j a:Nat},iR l=true->l[i]?=some a->l[j]?=some a->i=j
 | [],_,_,_,_,h,_=>by simp at h
 |x::l,i,j,a,hd,h,k=>by
  simp only [iR,Bool.and_eq_true,Bool.not_eq_true'] at hd;have no:∀{n:Nat},l[n]?=some x->False:=fun hn=>by
   have:x∈l:=xAh hn;rw[Kt.2 this] at hd;cases hd.1
  cases i with
  |zero=>cases j with
   |zero=>rfl
   |succ j=>simp at h k;subst h;exact(no k).elim
  |succ i=>cases j with
   |zero=>simp at h k;subst k;exact(no h).elim
   |succ j=>
    simp at h k
    rw[mE hd.2 h k]
theorem oO.less{e1 e2:pW}{b1 b1' b2 b2':aR}(h:oO e1 b1 e2 b2)(h1:b1'.wf=b1.wf)(h2:b2'.app=b2.app)(h3:b2'.cs.length<=b2.cs.length)(h4:b2'.wf=b2.wf):oO e1 b1' e2 b2':=by
 unfold oO at h⊢;rw[h1,h2,h4];rcases h with h|⟨k1,k2,k3,k4⟩
 ·exact .inl h
 ·exact .inr ⟨k1,k2,by omega,by omega⟩
structure Hb(P:Program)(f:FuncId)(args:List Value)(M:aB)(v:Value)(olds:List (Nat×Option aR))(news:List aR)(src:List Nat)(l:List (Nat×aR))(n:Nat)(SP:dC)(args0:List Value)(v0:Value)(M0:aB)(keepJ newsS:List Nat):Prop where
 specs:∀B,cS P [] B SP
 run:arun P [] SP n f args0 (cR l src.length)=some (v0,M0)
 dist:iR src=true
 blks:∀p∈l,∃(a:Nat) (c:aR),src[p.1]?=some a/\M.get a=some c/\kV (rH 0 src) c.cs=some p.2.cs/\c={p.2 with cs:=c.cs}
 args:kV (rH 0 src) args=some args0
 wr:∀t∈M0.log,t<src.length->(∃p∈l,p.1=t/\dN p.2)/\∃a:Nat,src[t]?=some a/\a∈olds.map (·.1)
 srcLt:∀(j a:Nat),src[j]?=some a->a<M.next
 oldsIn:∀a:Nat,a∈olds.map (·.1)->∃j:Nat,src[j]?=some a
 keep:∀j∈keepJ,j<src.length
 oldS:∀(a:Nat) (b:aR),(a,some b)∈olds->∃(j:Nat) (b0:aR),j∈keepJ/\src[j]?=some a/\M0.get j=some b0/\(∃r,kV (pH src keepJ++lX M.next newsS) b0.cs=some (b.cs++r))/\b={b0 with cs:=b.cs}
 newS:∀(i:Nat) (b:aR),news[i]?=some b->∃(s:Nat) (b0:aR),newsS[i]?=some s/\M0.get s=some b0/\(∃r,kV (pH src keepJ++lX M.next newsS) b0.cs=some (b.cs++r))/\b={b0 with cs:=b.cs}
 newL:newsS.length=news.length
 newD:iR newsS=true
 newO:∀s∈newsS,s∉keepJ/\(s<src.length->∃a:Nat,src[s]?=some a/\a∈olds.map (·.1))
 val:mP (pH src keepJ++lX M.next newsS) v0=some v
 old0:∀a∈olds.map (·.1),∀c,M.get a=some c->c.wf=0/\(c.app=true\/0<c.cs.length)
theorem aB.mut_get{M:aB}{a0:List (Nat×Option aR)}{news:List aR}{id:Nat}{b:aR}(h:(M.mut a0 news).getA id=some b):
  (id<M.next/\id∉a0.map (·.1)/\M.getA id=some b)\/(id<M.next/\(id,some b)∈a0)\/(M.next<=id/\news[id-M.next]?=some b):=by
 obtain⟨h1,h2,h3⟩:=bN.1 h
 simp only [aB.mut] at h1 h2 h3
 rw[uB] at h3
 by_cases hn:M.next<=id
 ·rw[if_pos ⟨hn,h1⟩] at h3;exact .inr (.inr ⟨hn,h3⟩)
 ·rw[if_neg (by omega)] at h3;by_cases hm:id∈a0.map (·.1)
  ·have:=Gu (T:=M.blks) hm;rw[h3] at this;exact .inr (.inl ⟨by omega,this⟩)
  ·rw[wU hm] at h3;exact .inl ⟨by omega,hm,bN.2 ⟨by omega,h2,h3⟩⟩
theorem aB.mut_abs{M:aB}{a0:List (Nat×Option aR)}{news:List aR}(ho:∀a∈a0.map (·.1),a<M.next):mA M (M.mut a0 news) (a0.map (·.1)):=
 ⟨rfl,Nat.le_add_right _ _,rfl,fun id hid hn=>by
  simp only [aB.mut];rw[uB,if_neg (by omega),wU hn],fun t ht=>xAf (ho t ht) (Nat.le_add_right _ _)⟩
theorem Hb.calls(hN:eJ P)(hm:P.follows .mixedOrders=true){f:FuncId}{args:List Value}{M:aB}{v:Value}{a0:List (Nat×Option aR)}{news:List aR}{a3:List Nat}{l:List (Nat×aR)}{n:Nat}{SP:dC}{args0:List Value}{v0:Value}{M0:aB}{b6 newsS:List Nat}
  (hF:Hb P f args M v a0 news a3 l n SP args0 v0 M0 b6 newsS) {φ:dX} {w:World} (hR:hI P GL B φ M w) (hG:jP φ M (M.mut a0 news)) {args':Array Value} (ha:cE φ args args'.toList):
  Calls P f args' w fun e w'=>∃L φ' v',e= .returned v'/\(M.mut a0 news).log=L++M.log/\Post P GL B φ φ' M (M.mut a0 news) L w w'/\bH φ' v v':=by
 have ho:∀a∈a0.map (·.1),a<M.next:=fun a h=>by
  obtain⟨j,hj⟩:=hF.oldsIn a h;exact hF.srcLt j a hj
 let φs:dX:=fun j=>match a3[j]? with
  |some a=>φ a
  |none=>none
 have b9:∀{j a:Nat},a3[j]?=some a->φs j=φ a:=fun hj=>by simp only [φs,hj]
 have c8:∀{j:Nat} {e:pW},φs j=some e->j<a3.length:=fun{j e} h=>by
  by_cases hh:j<a3.length
  ·exact hh
  ·simp only [φs] at h;rw[List.getElem?_eq_none (by omega)] at h;cases h
 have c0:∀s t,jV (rH 0 a3) s=some t->∀e,φ s=some e->φs t=some e:=fun s t h e he=>by
  obtain⟨fl,a4⟩:=rR h;have:=(Dp a4).2;rw[Nat.sub_zero] at this;rw[b9 this];exact he
 have b5:∀{id b},(cR l a3.length).getA id=some b->(id,b)∈l:=fun hb=>lU (bN.1 hb).2.2
 have b4:∀{p:Nat×aR} {c:aR},kV (rH 0 a3) c.cs=some p.2.cs->c={p.2 with cs:=c.cs}->(dN p.2↔dN c):=fun{p c} h1 h2=>by
  unfold dN;have:=fO h1;rw[this,h2]
 have e6:hI P [] B.flat φs (cR l a3.length) w:=by
  refine⟨fun id b hb=>?_,fun a8 d3 b1 b2 e1 e2 b7 c6 c7 hw a6 a7=>?_,fun g hg=>(by cases hg),fun k hk=>Bd.flat_ok.2 (hR.size k hk),fun id b hb=>(bN.1 hb).1,fun x hx=>by cases hx⟩
  ·obtain⟨a,c,h1,h2,h3,h4⟩:=hF.blks _ (b5 hb);simp only at h1 h3 h4;obtain⟨e,he,hr⟩:=hR.blk a c h2;refine⟨e,by rw[b9 h1];exact he,.inl ⟨?_,?_,by rw[fO h3];exact hr.len,fun hw=>Bd.flat_ok.2 (hr.own ?_),fun q1 q2=>hr.whole (by rw[h4];exact q1) fun q3=>q2 (List.eq_nil_of_length_eq_zero (by have:=fO h3;rw[q3] at this;exact this)),hr.real⟩⟩
   ·rw[hr.esz,h4]
   ·obtain⟨cc,lo,hi,k1,k2,k3,k4⟩:=hr.cells;refine⟨cc,lo,hi,by rw[h4] at k1;exact k1,k2,fun j u hu=>?_,fun hw=>?_⟩
    ·obtain⟨u0,q1,q2⟩:=uF h3 hu;obtain⟨u',q3,q4⟩:=k3 j u0 q1;exact⟨u',q3,nQ c0 q4 q2⟩
    ·have:=k4 ((b4 (p:=(id,b)) h3 h4).1 hw);rw[h4] at this;exact this
   ·exact(b4 (p:=(id,b)) h3 h4).1 hw
  ·obtain⟨a1,c1,h1,h2,h3,h4⟩:=hF.blks _ (b5 c6);obtain⟨a2,c2,k1,k2,f1,d8⟩:=hF.blks _ (b5 c7);simp only at h1 h3 h4 k1;rw[b9 h1] at a6;rw[b9 k1] at a7;refine(hR.sep a1 a2 c1 c2 e1 e2 (fun he=>?_) h2 k2 ((b4 (p:=(a8,b1)) h3 h4).1 hw) a6 a7).congr (by rw[h4]) (by rw[d8]) (by rw[fO f1]) (by rw[d8]);subst he;exact b7 (mE hF.dist h1 k1)
 have e7:cE φs args0 args'.toList:=pL c0 ha hF.args
 have e3:jP φs (cR l a3.length) M0:=fun id h1 _=>by
  simp only [φs];rw[List.getElem?_eq_none h1]
 have d0:=rY hN hm (hF.specs B.flat) n hF.run e6 e3 args' e7
 obtain⟨L0,hA⟩:=xG hN hm (hF.specs B.flat) n f args0 (cR l a3.length) v0 M0 hF.run
 have e4:M0.log=L0:=by
  have:=hA.log;simpa [cR] using this
 refine d0.mono fun e w' ⟨Ls,φs',v',he,hlog,hp,hv'⟩=>?_
 have e5:M0.log=Ls:=by rw[hlog];simp [cR]
 let mv:=pH a3 b6++lX M.next newsS
 let φ':dX:=fun id=>if id<M.next then φ id else match newsS[id-M.next]? with
  |some s=>φs' s
  |none=>φ id
 have a5:∀{id:Nat},id<M.next->φ' id=φ id:=fun hid=>by simp only [φ'];rw[if_pos hid]
 have c5:∀{id s:Nat},M.next<=id->newsS[id-M.next]?=some s->φ' id=φs' s:=fun{id s} h1 h2=>by
  simp only [φ'];rw[if_neg (by omega),h2]
 have b3:∀{j:Nat},j<a3.length->φs' j=φs j:=fun hj=>hp.ext _ (.inl hj)
 have d7:∀{id:Nat} {b:aR} {e:pW},M.getA id=some b->φ id=some e->e.block<w.heap.size:=fun{id b e} hb he=>by
  obtain⟨e',k1,hr⟩:=hR.blkA id b hb;rw[k1] at he;obtain rfl:=Option.some.inj he;exact hr.lt
 have a9:∀{t:Nat} {e0:pW},t∈Ls->φs t=some e0->∃a c,a3[t]?=some a/\a∈a0.map (·.1)/\M.get a=some c/\dN c/\φ a=some e0:=fun{t e0} ht d5=>by
  obtain⟨⟨p,h1,h2,h3⟩,a,h4,h5⟩:=hF.wr t (by rw[e5];exact ht) (c8 d5);obtain⟨a',c,k1,k2,k3,k4⟩:=hF.blks p h1;rw[h2,h4] at k1;cases k1;exact⟨a,c,h4,h5,k2,(b4 k3 k4).1 h3,by rw[<-b9 h4];exact d5⟩
 have c9:∀{s:Nat} {b0:aR},s<a3.length->M0.get s=some b0->∃a c,a3[s]?=some a/\M.get a=some c/\(dN b0->dN c):=fun{s b0} hs e8=>by
  by_cases hin:s∈M0.log
  ·obtain⟨⟨p,h1,h2,h3⟩,_⟩:=hF.wr s hin hs;obtain⟨a,c,k1,k2,k3,k4⟩:=hF.blks p h1;rw[h2] at k1;exact⟨a,c,k1,k2,fun _=>(b4 k3 k4).1 h3⟩
  ·have hk:=hA.keep s hs (by rw[<-e4];exact hin);have a4:=lU (show(oE l).get s=some b0 by rw[<-(cB.1 e8).2.2.1];exact hk.symm);obtain⟨a,c,k1,k2,k3,k4⟩:=hF.blks _ a4;exact⟨a,c,k1,k2,(b4 (p:=(s,b0)) k3 k4).1⟩
 have f0:∀{t s:Nat} {fl:Bool},(t,s,fl)∈mv->∀e,φs' s=some e->φ' t=some e:=fun{t s fl} a4 e he=>by
  rcases List.mem_append.1 a4 with a4|a4
  ·obtain⟨h1,h2⟩:=zI a4;have hs:=hF.keep s h1;have d2:a3[s]?=some a3[s]:=xAe hs;rw[d2] at h2;simp only [Option.getD_some] at h2;subst h2;rw[b3 hs,b9 d2] at he;have:a3[s]<M.next:=hF.srcLt s _ d2;rw[a5 this];exact he
  ·obtain⟨h1,h2⟩:=zH a4;rw[c5 h1 h2];exact he
 have d6:φ.le φ':=fun id e he=>by
  by_cases h1:id<M.next
  ·rw[a5 h1];exact he
  ·by_cases h2:id<(M.mut a0 news).next
   ·rw[hG id (by omega) h2] at he;cases he
   ·have h3:newsS[id-M.next]?=none:=by
     rw[List.getElem?_eq_none_iff,hF.newL];simp only [aB.mut] at h2;omega
    simp only [φ'];rw[if_neg h1,h3];exact he
 have c3:∀s t,jV mv s=some t->∀e,φs' s=some e->φ' t=some e:=fun s t h e he=>by
  obtain⟨fl,a4⟩:=rR h;exact f0 a4 e he
 have c4:∀{id:Nat} {b:aR},(M.mut a0 news).getA id=some b->(id<M.next/\id∉a0.map (·.1)/\M.getA id=some b)\/
   ∃(s:Nat) (b0:aR),M0.get s=some b0/\(∃r,kV mv b0.cs=some (b.cs++r))/\b={b0 with cs:=b.cs}/\φ' id=φs' s/\((id<M.next/\s∈b6/\a3[s]?=some id/\id∈a0.map (·.1))\/(M.next<=id/\newsS[id-M.next]?=some s)):=fun{id b} hb=>by
  rcases aB.mut_get hb with h|⟨h1,h2⟩|⟨h1,h2⟩
  ·exact .inl h
  ·obtain⟨j,b0,k1,k2,k3,k4,k5⟩:=hF.oldS id b h2;refine .inr ⟨j,b0,k3,k4,k5,?_,.inl ⟨h1,k1,k2,List.mem_map.2 ⟨_,h2,rfl⟩⟩⟩;rw[a5 h1,b3 (hF.keep j k1),b9 k2]
  ·obtain⟨s,b0,k1,k2,k3,k4⟩:=hF.newS _ b h2;exact .inr ⟨s,b0,k2,k3,k4,c5 h1 k1,.inr ⟨h1,k1⟩⟩
 have b8:∀{b b0:aR},(∃r,kV mv b0.cs=some (b.cs++r))->b={b0 with cs:=b.cs}->dN b->dN b0:=fun{b b0} ⟨r,h1⟩ h2 hw=>by
  unfold dN at hw⊢;have:=fO h1;rw[List.length_append] at this;rw[h2] at hw;simp only at hw;rcases hw with hw|hw
  ·exact .inl hw
  ·exact .inr (by omega)
 have d4:∀{a8 s:Nat} {b1 b0:aR} {e1 e2:pW},a8<M.next->a8∉a0.map (·.1)->M.getA a8=some b1->M0.get s=some b0->(s<a3.length->∃a,a3[s]?=some a/\a∈a0.map (·.1))->(dN b1\/dN b0)->φ a8=some e1->φs' s=some e2->e1.block≠e2.block:=fun{a8 s b1 b0 e1 e2} h1 h2 h3 h4 h5 hw a6 a7=>by
  by_cases hs:s<a3.length
  ·obtain⟨a,k1,k2⟩:=h5 hs;obtain⟨a',c,q1,q2,q3⟩:=c9 hs h4;rw[k1] at q1;cases q1;rw[b3 hs,b9 k1] at a7;have b7:a8≠a:=fun he=>h2 (he▸k2)
   rcases hw with hw|hw
   ·obtain⟨z1,z2⟩:=hF.old0 a k2 c q2;exact(hR.sepA a8 a b1 c e1 e2 b7 h3 (gP q2) hw a6 a7).ne (by rw[z1];exact z2)
   ·exact fun he=>(hR.sepA a a8 c b1 e2 e1 (Ne.symm b7) (gP q2) h3 (q3 hw) a7 a6).ne0 (hF.old0 a k2 c q2).1 he.symm
  ·have d1:s<M0.next:=(cB.1 h4).1;rcases hp.newb s e2 (by simpa [cR] using Nat.le_of_not_lt hs) d1 a7 with k1|⟨t,k1,e0,k2,k3⟩
   ·have:=d7 h3 a6;omega
   ·obtain⟨a,c,q1,q2,q3,q4,q5⟩:=a9 k1 k2;have b7:a8≠a:=fun he=>h2 (he▸q2)
    rw[<-k3];exact fun he=>(hR.sepA a a8 c b1 e0 e1 (Ne.symm b7) (gP q3) h3 q4 q5 a6).ne0 (hF.old0 a q2 c q3).1 he.symm
 refine⟨a0.map (·.1),φ',v',he,rfl,⟨fun id hid=>?_,Nat.le_add_right _ _,⟨fun id b hb=>?_,fun a8 d3 b1 b2 e1 e2 b7 c6 c7 hw a6 a7=>?_,fun g hg=>?_,fun k e9=>hR.size k (Nat.le_trans hp.fr.size e9),fun id b hb=>(bN.1 hb).1,fun x hx=>(hR.rnd x hx).step d6 (by
   rcases hp.fr.block x.l (hR.rnd x hx).lt with q|⟨q,_⟩
   ·exact q
   ·exact absurd rfl ((Bd.flat_ok.1 q).2.2 x hx))⟩,
  ⟨hp.fr.os,hp.fr.tape,hp.fr.output,hp.fr.size,fun k hk=>?_⟩,fun id e h1 h2 hid=>?_,fun t ht=>xAf (ho t ht) (Nat.le_add_right _ _)⟩,nQ c3 hv' hF.val⟩
 ·rcases hid with hid|hid
  ·exact a5 hid
  ·have h3:newsS[id-M.next]?=none:=by
    rw[List.getElem?_eq_none_iff,hF.newL];simp only [aB.mut] at hid;omega
   simp only [φ'];simp only [aB.mut] at hid;rw[if_neg (by omega),h3]
 ·rcases c4 hb with⟨h1,h2,h3⟩|⟨s,b0,h1,h2,h3,h4,_⟩
  ·obtain⟨e,k1,hr⟩:=hR.blkA id b h3;refine⟨e,by rw[a5 h1];exact k1,hr.keep d6 ?_⟩;rcases hp.fr.block e.block (d7 h3 k1) with q|⟨_,t,q1,e0,q2,q3⟩
   ·exact q
   ·obtain⟨a,c',r1,r2,r3,r4,r5⟩:=a9 q1 q2;exact absurd q3 ((hR.sepA a id c' b e0 e (fun he=>h2 (he▸r2)) (gP r3) h3 r4 r5 k1).ne0 (hF.old0 a r2 c' r3).1)
  ·obtain⟨e,k1,hr⟩:=hp.rel.blk s b0 h1;refine⟨e,by rw[h4];exact k1,.inl ⟨by rw[h3];exact hr.esz,?_,(by
    obtain⟨r,h2⟩:=h2;have:=fO h2;rw[List.length_append] at this;have:=hr.len;omega),fun hw=>Bd.flat_ok.1 (hr.own (b8 h2 h3 hw)),fun q1 q2=>hr.whole (by rw[h3] at q1;exact q1) fun q3=>q2 (by
     obtain⟨r,h2⟩:=h2;have:=fO h2;rw[q3] at this;exact List.eq_nil_of_length_eq_zero (by simp only [List.length_append,List.length_nil] at this;omega)),hr.real⟩⟩
   obtain⟨c,lo,hi,k2,k3,k4,k5⟩:=hr.cells;refine⟨c,lo,hi,by rw[h3];exact k2,k3,fun j u hu=>?_,fun hw=>?_⟩
   ·obtain⟨r,h2⟩:=h2;obtain⟨u0,q1,q2⟩:=uF h2 (j:=j) (u:=u) (by
     have hj:j<b.cs.length:=by
      by_cases hh:j<b.cs.length
      ·exact hh
      ·rw[List.getElem?_eq_none (by omega)] at hu;cases hu
     rw[List.getElem?_append_left hj];exact hu)
    obtain⟨u',q3,q4⟩:=k4 j u0 q1;exact⟨u',q3,nQ c3 q4 q2⟩
   ·have:=k5 (b8 h2 h3 hw);rw[h3];exact this
 ·rcases c4 c6 with⟨h1,h2,h3⟩|⟨s1,c1,h1,h2,h3,h4,h5⟩<;>rcases c4 c7 with⟨k1,k2,k3⟩|⟨s2,c2,k1,k2,k3,k4,k5⟩
  ·rw[a5 h1] at a6;rw[a5 k1] at a7;exact hR.sepA a8 d3 b1 b2 e1 e2 b7 h3 k3 hw a6 a7
  ·rw[a5 h1] at a6;rw[k4] at a7;refine .inl (d4 h1 h2 h3 k1 (fun hs=>?_) (.inl hw) a6 a7);rcases k5 with⟨_,_,q3,q4⟩|⟨_,q2⟩
   ·exact⟨d3,q3,q4⟩
   ·exact(hF.newO s2 (xAh q2)).2 hs
  ·rw[a5 k1] at a7;rw[h4] at a6;refine .inl (fun he=>d4 k1 k2 k3 h1 (fun hs=>?_) (.inr (b8 h2 h3 hw)) a7 a6 he.symm);rcases h5 with⟨_,_,q3,q4⟩|⟨_,q2⟩
   ·exact⟨a8,q3,q4⟩
   ·exact(hF.newO s1 (xAh q2)).2 hs
  ·rw[h4] at a6;rw[k4] at a7;refine(hp.rel.sep s1 s2 c1 c2 e1 e2 (fun hs=>?_) h1 k1 (b8 h2 h3 hw) a6 a7).less (by rw[h3]) (by rw[k3]) (by
    obtain⟨r,k2⟩:=k2;have:=fO k2;rw[List.length_append] at this;omega) (by rw[k3])
   subst hs;rcases h5 with⟨_,q2,q3,_⟩|⟨q1,q2⟩<;>rcases k5 with⟨_,r2,r3,_⟩|⟨r1,r2⟩
   ·rw[q3] at r3;cases r3;exact b7 rfl
   ·exact(hF.newO s1 (xAh r2)).1 q2
   ·exact(hF.newO s1 (xAh q2)).1 r2
   ·have:=mE hF.newD q2 r2;exact b7 (by omega)
 ·obtain⟨h1,e,h2,h3⟩:=hR.glob g hg;exact⟨xAf h1 (Nat.le_add_right _ _),e,by rw[a5 h1];exact h2,h3⟩
 ·rcases hp.fr.block k hk with h1|⟨h1,t,h2,e0,h3,h4⟩
  ·exact .inl h1
  ·obtain⟨a,c,r1,r2,r3,r4,r5⟩:=a9 h2 h3;exact .inr ⟨Bd.flat_ok.1 h1,a,r2,e0,r5,h4⟩
 ·have d9:M.next<=id:=h1;have h2':id<M.next+news.length:=h2;cases hs:newsS[id-M.next]? with
  |none=>
   rw[List.getElem?_eq_none_iff,hF.newL] at hs
   omega
  |some s=>
   rw[c5 d9 hs] at hid
   have hO:=hF.newO s (xAh hs)
   by_cases hsl:s<a3.length
   ·obtain⟨a,q1,q2⟩:=hO.2 hsl;rw[b3 hsl,b9 q1] at hid;exact .inr ⟨a,q2,e,hid,rfl⟩
   ·have d1:s<M0.next:=by
     obtain⟨s',b0,q1,q2,_⟩:=hF.newS (id-M.next) (news[id-M.next]'(by omega)) (xAe (by omega));rw[hs] at q1;obtain rfl:=Option.some.inj q1;exact(cB.1 q2).1
    rcases hp.newb s e (by simpa [cR] using Nat.le_of_not_lt hsl) d1 hid with q1|⟨t,q1,e0,q2,q3⟩
    ·exact .inl q1
    ·obtain⟨a,c,r1,r2,r3,r4,r5⟩:=a9 q1 q2;exact .inr ⟨a,r2,e0,r5,q3⟩
theorem dR.ofMut(hN:eJ P)(hm:P.follows .mixedOrders=true){f:FuncId}{g:List Value->aB->Option (Value×aB)}
  (h:∀args M v M',g args M=some (v,M')->∃a1 news a2 l n SP args0 v0 M0 a0 newsS,M'=M.mut a1 news/\Hb P f args M v a1 news a2 l n SP args0 v0 M0 a0 newsS):dR P GL B f g:=by
 refine⟨fun args M v M' hg=>?_,fun args M v M' hg φ w hR hG args' ha=>?_⟩
 ·obtain⟨a1,news,a2,l,n,SP,args0,v0,M0,a0,newsS,rfl,hF⟩:=h args M v M' hg;exact⟨_,aB.mut_abs fun a ha=>by
   obtain⟨j,hj⟩:=hF.oldsIn a ha;exact hF.srcLt j a hj⟩
 ·obtain⟨a1,news,a2,l,n,SP,args0,v0,M0,a0,newsS,rfl,hF⟩:=h args M v M' hg;exact hF.calls hN hm hR hG ha
end Go.Am
namespace Go.Am
open Go
end Go.Am
namespace Go.Am
open Go
variable{P:Program}{GL:List Nat}{B:Bd}
end Go.Am
end

noncomputable section
namespace Go.Am
open Go
variable{P:Program}{GL:List Nat}{B:Bd}
abbrev i64(z:Int):Value:= .int .i64 z
abbrev pt(b o:Nat):Value:= .pointer (some ⟨b,o,none⟩)
def aE(x n:Int):Int:=if x.tmod n<0 then x.tmod n+n else x.tmod n
theorem jE{x n:Int}(hn:0<n):0<=aE x n/\aE x n<n:=by have hlt:x.tmod n<n:=Int.tmod_lt_of_pos x hn;have hgt: -n<x.tmod n:=Int.lt_tmod_of_pos x hn;unfold aE;split<;>omega
theorem Ts{x n:Int}(hn:0<n)(hn2:n<2^62)(h:x.tmod n<0):IntKind.wrap .i64 (x.tmod n+n)=aE x n:=by have hgt: -n<x.tmod n:=Int.lt_tmod_of_pos x hn;rw[IntWalk.i64_in _ (by omega)];unfold aE;rw[if_pos h]
theorem Tt{x n:Int}(h:¬x.tmod n<0):x.tmod n=aE x n:=by unfold aE;rw[if_neg h]
end Go.Am
namespace Go.Am
open Go
end Go.Am
end

namespace Go.Am
open Go Go.ChangeShapes Go.WideShapes
variable{P:Program}{w:World}
theorem Ln{w':World}(h:Hc w w'){p:MemPlace}(hp:p.block<w.heap.size):w.sameAt w' p:=by
 cases p with
 |cell b off=>
  show w'.cell? _=w.cell? _
  unfold World.cell?
  rw[h.block b hp]
 |map b=>exact h.block b hp
theorem yG{H:Type}{enc:TypeId×Value->H}{w':World}{base:Nat}(hl:laidOutB P=true)(hk:Hc w w'){sp:Nat->Bool}:∀{ts:List TypeId} {vs:List Value} {ds:List (DataW H)} {ps:List MemPlace},
  (∀t∈ts,P.readableRec t=true/\t<P.types.size)->DataW.TrodAll enc P w base (fun _=>true) true ts vs ds ps->(∀p∈ps,p.block<w.heap.size)->(∀p∈ps,sp p.block=true)->DataW.TrodAll enc P w' base sp true ts vs ds ps
 | [],vs,ds,ps,_,h,_,_=>by
  obtain⟨rfl,rfl,rfl⟩:=trodAll_nil h;exact trodAll_mk0
 |t::ts,vs,ds,ps,ht,h,hp,hs=>by
  obtain⟨v,a1,d,a0,p,q,rfl,rfl,rfl,h1,h2⟩:=trodAll_cons h;refine⟨p,q,?_,yG hl hk (fun t h=>ht t (List.mem_cons_of_mem _ h)) h2 (fun x hx=>hp x (List.mem_append_right _ hx)) (fun x hx=>hs x (List.mem_append_right _ hx)),rfl⟩;exact Go.WideElems.Trod_stays hl (ht t (List.mem_cons_self ..)).1 (ht t (List.mem_cons_self ..)).2 h1 (fun x hx=>Ln hk (hp x (List.mem_append_left _ hx))) (fun x hx=>hs x (List.mem_append_left _ hx))
end Go.Am

noncomputable section
namespace Go.Am
open Go Go.ChangeShapes Go.WideShapes Go.ChangeAt Go.RowKit
variable{P:Program}{GL:List Nat}{B:Bd}
section
variable{H:Type}{enc:TypeId×Value->H}{w:World}{held:Bool}
end
end Go.Am
namespace Go.Am
open Go
variable{P:Program}
end Go.Am
end
