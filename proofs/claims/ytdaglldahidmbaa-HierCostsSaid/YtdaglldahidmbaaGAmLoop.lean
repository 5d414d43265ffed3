/-
  Package hier: each of its laws for every argument; no conditions. The last text states which.
-/
import Derived.Test.YtdaglldahidmbaaAmMem
import Derived.LoopN
import Derived.Test.YtdaglldahidmbaaGAmTop
import Derived.Test.YtdaglldahidmbaaGAmEq
import Derived.IntWalk
import Derived.KernelRfl
import Derived.ChangeSlices
import Derived.WideKeyArgs
import Derived.ChangeSame
import Derived.Deep.DeepHandedRow
import Derived.OpenShut
import Derived.ProofKit
set_option linter.unusedVariables false
set_option linter.unusedSimpArgs false
noncomputable section
namespace Go.Am
open Go
abbrev Moves:=List (Nat×Nat×Bool)
def toTgt:Moves→Nat→Option Nat
 | [],_=>none
 |(t,s,_)::l,n=>bif Nat.beq s n then some t else toTgt l n
def renAddr(ρ:Moves)(a:Addr):Option Addr:=
 match a.spot,toTgt ρ a.block with
 |none,some t=>some ⟨t,a.off,none⟩
 |_,_=>none
mutual
def renV(ρ:Moves):Value→Option Value
 | .pointer (some a)=>match renAddr ρ a with|some a=>some (.pointer (some a))|none=>none
 | .slice (some a) l c=>match renAddr ρ a with|some a=>some (.slice (some a) l c)|none=>none
 | .func fn first captured=>bif isYield fn then none else match renA ρ first,renA ρ captured with|some x,some y=>some (.func fn ⟨x⟩ ⟨y⟩)|_,_=>none
 | .iface t v=>match renV ρ v with|some v=>some (.iface t v)|none=>none
 | .agg cs=>match renA ρ cs with|some x=>some (.agg ⟨x⟩)|none=>none
 | .tuple vs=>match renA ρ vs with|some x=>some (.tuple ⟨x⟩)|none=>none
 |v=>bif leaf v then some v else none
def renA(ρ:Moves):Array Value→Option (List Value)
 |⟨l⟩=>renL ρ l
def renL(ρ:Moves):List Value→Option (List Value)
 | []=>some []
 |v::l=>match renV ρ v,renL ρ l with|some v,some l=>some (v::l)|_,_=>none
end
variable{P:Program}{GL:List Nat}{B:Bd}
theorem renAddr_rel{ρ:Moves}{φ ψ:Emb}(h: ∀s t,toTgt ρ s=some t→ ∀e,φ s=some e→ψ t=some e){a b:Addr}(hr:renAddr ρ a=some b):
  b.spot=none∧b.off=a.off∧ ∀e,φ a.block=some e→ψ b.block=some e:=by
 unfold renAddr at hr
 split at hr
 ·rename_i t hs ht
  cases hr
  exact⟨rfl,rfl,h _ _ ht⟩
 ·cases hr
theorem renV_leaf(ρ:Moves): ∀v,leaf v=true→renV ρ v=some v
 | .bool _,_=>rfl
 | .int _ _,_=>rfl
 | .float _ _,_=>rfl
 | .complex _ _ _,_=>rfl
 | .string _,_=>rfl
 | .pointer none,_=>rfl
 | .pointer (some _),h=>by simp [leaf] at h
 | .slice none 0 0,_=>rfl
 | .slice none (_+1) _,h=>by simp [leaf] at h
 | .slice none 0 (_+1),h=>by simp [leaf] at h
 | .slice (some _) _ _,h=>by simp [leaf] at h
 | .map none,_=>rfl
 | .map (some _),h=>by simp [leaf] at h
 | .chan none,_=>rfl
 | .chan (some _),h=>by simp [leaf] at h
 | .func _ _ _,h=>by simp [leaf] at h
 | .nilFunc,_=>rfl
 | .iface _ _,h=>by simp [leaf] at h
 | .nilIface,_=>rfl
 | .agg _,h=>by simp [leaf] at h
 | .tuple _,h=>by simp [leaf] at h
mutual
theorem renV_rel{ρ:Moves}{φ ψ:Emb}(h: ∀s t,toTgt ρ s=some t→ ∀e,φ s=some e→ψ t=some e): ∀{v v' u:Value},VRel φ v v'→renV ρ v=some u→VRel ψ u v'
 |v,_,u,.leaf hl,hr=>by
  rw[renV_leaf ρ v hl] at hr
  cases hr;exact .leaf hl
 |_,_,u,.ptr ha,hr=>by
  simp only [renV] at hr
  split at hr
  ·rename_i b hb
   cases hr
   obtain⟨h1,h2,h3⟩:=renAddr_rel h hb
   obtain⟨k1,k2,e,k3,k4,k5⟩:=ha
   exact .ptr ⟨h1,k2,e,h3 e k3,k4,by rw[h2];exact k5⟩
  ·cases hr
 |_,_,u,.slice hs,hr=>by
  simp only [renV] at hr
  split at hr
  ·rename_i b hb
   cases hr
   obtain⟨h1,h2,h3⟩:=renAddr_rel h hb
   obtain⟨k1,k2,k3,k4,e,k5,k6⟩:=hs
   exact .slice ⟨h1,k2,k3,k4,e,h3 e k5,by rw[h2];exact k6⟩
  ·cases hr
 |_,_,u,.hollow hs,hr=>by
  simp only [renV,renAddr] at hr
  split at hr
  ·rename_i b hb
   split at hb
   ·rename_i h0 _
    exact absurd h0 hs
   ·cases hb
  ·cases hr
 |_,_,u,.func hf hx hy,hr=>by
  simp only [renV,renA,hf,cond_false] at hr
  split at hr
  ·rename_i x y h1 h2
   cases hr
   exact .func hf (renL_rel h hx h1) (renL_rel h hy h2)
  ·cases hr
 |_,_,u,.yld _,hr=>by
  simp only [renV,isYield,cond_true] at hr
  cases hr
 |_,_,u,.iface hv,hr=>by
  simp only [renV] at hr
  split at hr
  ·rename_i x h1
   cases hr
   exact .iface (renV_rel h hv h1)
  ·cases hr
 |_,_,u,.agg hl,hr=>by
  simp only [renV,renA] at hr
  split at hr
  ·rename_i x h1
   cases hr
   exact .agg (renL_rel h hl h1)
  ·cases hr
 |_,_,u,.tuple hl,hr=>by
  simp only [renV,renA] at hr
  split at hr
  ·rename_i x h1
   cases hr
   exact .tuple (renL_rel h hl h1)
  ·cases hr
theorem renL_rel{ρ:Moves}{φ ψ:Emb}(h: ∀s t,toTgt ρ s=some t→ ∀e,φ s=some e→ψ t=some e): ∀{l l' k:List Value},LRel φ l l'→renL ρ l=some k→LRel ψ k l'
 |_,_,k,.nil,hr=>by
  simp only [renL,Option.some.injEq] at hr
  subst hr;exact .nil
 |_,_,k,.cons hv hl,hr=>by
  simp only [renL] at hr
  split at hr
  ·rename_i x y h1 h2
   cases hr
   exact .cons (renV_rel h hv h1) (renL_rel h hl h2)
  ·cases hr
end
theorem renL_len{ρ:Moves}: ∀{l k:List Value},renL ρ l=some k→k.length=l.length
 | [],k,h=>by simp only [renL,Option.some.injEq] at h;subst h;rfl
 |v::l,k,h=>by
  simp only [renL] at h
  split at h
  ·rename_i x y h1 h2
   cases h
   simp [renL_len h2]
  ·cases h
theorem renL_get{ρ:Moves}: ∀{l k:List Value},renL ρ l=some k→ ∀{j:Nat} {u:Value},k[j]?=some u→ ∃v,l[j]?=some v∧renV ρ v=some u
 | [],k,h,j,u,hu=>by simp only [renL,Option.some.injEq] at h;subst h;simp at hu
 |v::l,k,h,j,u,hu=>by
  simp only [renL] at h
  split at h
  ·rename_i x y h1 h2
   cases h
   cases j with
   |zero=>simp at hu;subst hu;exact⟨v,rfl,h1⟩
   |succ j=>simp at hu;obtain⟨v',h3,h4⟩:=renL_get h2 hu;exact⟨v',by simpa using h3,h4⟩
  ·cases h
mutual
theorem renV_flat(ρ:Moves): ∀v,flat v=true→renV ρ v=some v
 | .bool _,_=>rfl
 | .int _ _,_=>rfl
 | .float _ _,_=>rfl
 | .complex _ _ _,_=>rfl
 | .string _,_=>rfl
 | .pointer none,_=>rfl
 | .pointer (some _),h=>by simp [flat] at h
 | .slice none l c,h=>by
  simp [flat] at h
  obtain⟨rfl,rfl⟩:=h
  rfl
 | .slice (some _) _ _,h=>by simp [flat] at h
 | .map none,_=>rfl
 | .map (some _),h=>by simp [flat] at h
 | .chan none,_=>rfl
 | .chan (some _),h=>by simp [flat] at h
 | .func _ ⟨x⟩ ⟨y⟩,h=>by
  simp [flat,flatA] at h
  simp only [renV,renA,h.1,cond_false,renL_flat ρ x h.2.1,renL_flat ρ y h.2.2]
 | .nilFunc,_=>rfl
 | .iface _ v,h=>by simp only [renV,renV_flat ρ v (by simpa [flat] using h)]
 | .nilIface,_=>rfl
 | .agg ⟨x⟩,h=>by simp only [renV,renA,renL_flat ρ x (by simpa [flat,flatA] using h)]
 | .tuple ⟨x⟩,h=>by simp only [renV,renA,renL_flat ρ x (by simpa [flat,flatA] using h)]
theorem renL_flat(ρ:Moves): ∀l,flatL l=true→renL ρ l=some l
 | [],_=>rfl
 |v::l,h=>by
  simp [flatL] at h
  simp only [renL,renV_flat ρ v h.1,renL_flat ρ l h.2]
end
def memN(n:Nat):List Nat→Bool
 | []=>false
 |x::l=>Nat.beq n x||memN n l
theorem memN_iff{n:Nat}: ∀{l:List Nat},memN n l=true↔n∈l
 | []=>by simp [memN]
 |x::l=>by simp [memN,memN_iff (l:=l)]
def distinct:List Nat→Bool
 | []=>true
 |x::l=> !memN x l&&distinct l
theorem toTgt_mem{t:Nat}: ∀{mv:Moves} {s:Nat},toTgt mv s=some t→ ∃fl,(t,s,fl)∈mv
 | [],_,h=>by cases h
 |(t',s',fl)::mv,s,h=>by
  simp only [toTgt] at h
  cases hb:Nat.beq s' s<;>simp only [hb,cond_true,cond_false] at h
  ·obtain⟨fl',h'⟩:=toTgt_mem h
   exact⟨fl',List.mem_cons_of_mem _ h'⟩
  ·have:s'=s:=Nat.eq_of_beq_eq_true hb
   cases h;subst this
   exact⟨fl,List.mem_cons_self ..⟩
end Go.Am
end

noncomputable section
namespace Go.Am
open Go
variable{P:Program}{GL:List Nat}{B:Bd}
def blkEnd(id:Nat):AExit→AExit
 | .exit i=>bif Nat.beq i id then .normal else .exit i
 |e=>e
end Go.Am
end

noncomputable section
namespace Go.Am
open Go
variable{P:Program}{GL:List Nat}{B:Bd}{φ:Emb}{w:World}
def blkTree:List (Nat×ABlk)→Tr ABlk
 | []=> .nil
 |(i,b)::l=>(blkTree l).set i (some b)
theorem blkTree_mem: ∀{l:List (Nat×ABlk)} {id:Nat} {b:ABlk},(blkTree l).get id=some b→(id,b)∈l
 | [],id,b,h=>by simp [blkTree,Tr.get] at h
 |(i,c)::l,id,b,h=>by
  unfold blkTree at h
  rw[Tr.get_set] at h
  by_cases hi:id=i
  ·rw[if_pos hi] at h
   cases h;subst hi
   exact List.mem_cons_self ..
  ·rw[if_neg hi] at h
   exact List.mem_cons_of_mem _ (blkTree_mem h)
def startMem(l:List (Nat×ABlk))(next:Nat):Mem:=⟨blkTree l,next,[],[]⟩
structure Knows1(P:Program)(GL:List Nat)(φ:Emb)(l:List (Nat×ABlk))(next:Nat)(w:World):Prop where
 blk: ∀p∈l,∃e,φ p.1=some e∧BRel P w.heap.size φ w e p.2
 ro: ∀p∈l,p.2.app=false∧p.2.wf=p.2.cs.length
 glob: ∀g∈GL,g<next∧ ∃e,φ g=some e∧e.block=g∧e.base=0
 fresh: ∀id,next≤id→φ id=none
theorem Knows1.rel{l:List (Nat×ABlk)}{next:Nat}(h:Knows1 P GL φ l next w):Rel P GL w.heap.size φ (startMem l next) w:=by
 have hm: ∀id b,(startMem l next).getA id=some b→(id,b)∈l:=fun id b hb=>blkTree_mem (getA_spec.1 hb).2.2
 refine⟨fun id b hb=>let ⟨e,h1,h2⟩:=h.blk _ (hm id b hb);⟨e,h1,.inl h2⟩,fun a b c d e f _ h1 _ hw=> ?_,h.glob,fun k hk=>bd_ok hk,fun id b hb=>(getA_spec.1 hb).1,fun x hx=>by cases hx⟩
 obtain⟨h2,h3⟩:=h.ro _ (hm a c h1)
 simp only at h2 h3
 rw[h2,h3] at hw
 rcases hw with hw|hw
 ·cases hw
 ·exact absurd hw (Nat.lt_irrefl _)
theorem BRel.part{b off:Nat}{c:Array Value}{elem:TypeId}{fr:Nat×Nat}{cs:List Value}{esz:Nat}(hc:w.heap[b]?=some (.cells c elem fr))(ho:off+cs.length≤c.size)
  (hs: ∀j v,cs[j]?=some v→ ∃v',c[off+j]?=some v'∧VRel φ v v') (hz:esz=0→cs= []:=by intro h;exact absurd h (by decide)) (hm:off=0∨off<c.size∨esz≠mapEsz:=by first|exact .inl rfl|exact .inr (.inr (by decide))):
  BRel P w.heap.size φ w ⟨b,off,c.size-off,esz⟩ ⟨cs,elem,esz,cs.length,false⟩:=by
 refine⟨rfl,⟨c,fr.1,fr.2,hc,by simp only;omega,hs,fun hw=> ?_⟩,by simp only;omega,fun hw=> ?_,?_,fun⟨x1,x2,x3⟩=> ?_⟩
 ·rcases hw with hw|hw
  ·cases hw
  ·exact absurd hw (Nat.lt_irrefl _)
 ·rcases hw with hw|hw
  ·cases hw
  ·exact absurd hw (Nat.lt_irrefl _)
 ·exact fun h1 h2=>absurd (hz h1) h2
 ·simp only at x1 x2 x3
  rcases hm with hm|hm|hm
  ·omega
  ·omega
  ·exact hm x3
end Go.Am
end

noncomputable section
namespace Go.Am
open Go
variable{P:Program}{GL:List Nat}{B:Bd}
end Go.Am
end

namespace Go.Am
open Go
variable{P:Program}{GL:List Nat}{B:Bd}
theorem takeN_all: ∀{l:List Value} {n:Nat},l.length=n→takeN n l=some l
 | [],n,h=>by subst h;rfl
 |v::l,n,h=>by
  subst h
  simp only [List.length_cons,takeN]
  rw[takeN_all rfl]
theorem takeN_append: ∀(a b:List Value),takeN a.length (a++b)=some a
 | [],b=>rfl
 |v::a,b=>by
  simp only [List.length_cons,List.cons_append,takeN]
  rw[takeN_append a b]
theorem splice_one: ∀(l:List Value) (n:Nat) (v:Value),n<l.length→splice l n [v]=l.set n v
 | [],n,v,h=>absurd h (Nat.not_lt_zero _)
 |c::l,0,v,_=>by cases l<;>rfl
 |c::l,n+1,v,h=>by
  show c::splice l n [v]=_
  rw[splice_one l n v (by simpa using h)]
  rfl
end Go.Am

namespace Go.Am
open Go
variable{P:Program}{GL:List Nat}{B:Bd}
end Go.Am

noncomputable section
namespace Go.Am
open Go
variable{P:Program}{GL:List Nat}{B:Bd}
end Go.Am
end

noncomputable section
namespace Go.Am
open Go
variable{P:Program}{GL:List Nat}{B:Bd}
theorem pushAll_get: ∀{l:List ABlk} {n:Nat} {T:Tr ABlk} {id:Nat},(pushAll l n T).get id=if n≤id∧id<n+l.length then l[id-n]? else T.get id
 | [],n,T,id=>by
  simp only [pushAll,List.length_nil]
  rw[if_neg (by omega)]
 |b::l,n,T,id=>by
  simp only [pushAll,List.length_cons]
  rw[pushAll_get,Tr.get_set]
  by_cases h1:id=n
  ·subst h1
   rw[if_neg (by omega),if_pos rfl,if_pos (by omega)]
   simp
  ·rw[if_neg h1]
   by_cases h2:n+1≤id∧id<n+1+l.length
   ·rw[if_pos h2,if_pos (by omega)]
    rw[show id-n=(id-(n+1))+1 by omega]
    simp
   ·rw[if_neg h2,if_neg (by omega)]
theorem setAll_out: ∀{l:List (Nat×Option ABlk)} {T:Tr ABlk} {id:Nat},id∉l.map (·.1)→(setAll l T).get id=T.get id
 | [],_,_,_=>rfl
 |(i,b)::l,T,id,h=>by
  simp only [List.map_cons,List.mem_cons,not_or] at h
  simp only [setAll]
  rw[Tr.get_set,if_neg h.1,setAll_out h.2]
theorem setAll_in: ∀{l:List (Nat×Option ABlk)} {T:Tr ABlk} {id:Nat},id∈l.map (·.1)→(id,(setAll l T).get id)∈l
 | [],_,_,h=>by cases h
 |(i,b)::l,T,id,h=>by
  simp only [setAll]
  rw[Tr.get_set]
  by_cases hi:id=i
  ·subst hi;rw[if_pos rfl];exact List.mem_cons_self ..
  ·rw[if_neg hi]
   simp only [List.map_cons,List.mem_cons] at h
   exact List.mem_cons_of_mem _ (setAll_in (h.resolve_left hi))
def mvIn:Nat→List Nat→Moves
 |_,[]=> []
 |j,a::l=>(j,a,false)::mvIn (j+1) l
def mvOld(src:List Nat):List Nat→Moves
 | []=> []
 |j::l=>((src[j]?).getD 0,j,false)::mvOld src l
def mvNew:Nat→List Nat→Moves
 |_,[]=> []
 |n,s::l=>(n,s,false)::mvNew (n+1) l
theorem mvIn_mem: ∀{src:List Nat} {j t s:Nat} {fl:Bool},(t,s,fl)∈mvIn j src→j≤t∧src[t-j]?=some s
 | [],_,_,_,_,h=>by cases h
 |a::l,j,t,s,fl,h=>by
  simp only [mvIn] at h
  rcases List.mem_cons.1 h with h|h
  ·cases h;simp
  ·obtain⟨h1,h2⟩:=mvIn_mem h
   refine⟨by omega,?_⟩
   rw[show t-j=(t-(j+1))+1 by omega]
   simpa using h2
theorem mvOld_mem{src:List Nat}: ∀{l:List Nat} {t s:Nat} {fl:Bool},(t,s,fl)∈mvOld src l→s∈l∧t=(src[s]?).getD 0
 | [],_,_,_,h=>by cases h
 |j::l,t,s,fl,h=>by
  simp only [mvOld] at h
  rcases List.mem_cons.1 h with h|h
  ·cases h;exact⟨List.mem_cons_self ..,rfl⟩
  ·obtain⟨h1,h2⟩:=mvOld_mem h
   exact⟨List.mem_cons_of_mem _ h1,h2⟩
theorem mvNew_mem: ∀{l:List Nat} {n t s:Nat} {fl:Bool},(t,s,fl)∈mvNew n l→n≤t∧l[t-n]?=some s
 | [],_,_,_,_,h=>by cases h
 |a::l,n,t,s,fl,h=>by
  simp only [mvNew] at h
  rcases List.mem_cons.1 h with h|h
  ·cases h;simp
  ·obtain⟨h1,h2⟩:=mvNew_mem h
   refine⟨by omega,?_⟩
   rw[show t-n=(t-(n+1))+1 by omega]
   simpa using h2
def writable(b:ABlk):Prop:=b.app=true∨b.wf<b.cs.length
theorem distinct_inj: ∀{l:List Nat} {i j a:Nat},distinct l=true→l[i]?=some a→l[j]?=some a→i=j
 | [],_,_,_,_,h,_=>by simp at h
 |x::l,i,j,a,hd,h,k=>by
  simp only [distinct,Bool.and_eq_true,Bool.not_eq_true'] at hd
  have no: ∀{n:Nat},l[n]?=some x→False:=fun hn=>by
   have:x∈l:=List.mem_of_getElem? hn
   rw[memN_iff.2 this] at hd
   cases hd.1
  cases i with
  |zero=>cases j with
   |zero=>rfl
   |succ j=>simp at h k;subst h;exact(no k).elim
  |succ i=>cases j with
   |zero=>simp at h k;subst k;exact(no h).elim
   |succ j=>
    simp at h k
    rw[distinct_inj hd.2 h k]
theorem Apart.less{e1 e2:Ent}{b1 b1' b2 b2':ABlk}(h:Apart e1 b1 e2 b2)(h1:b1'.wf=b1.wf)(h2:b2'.app=b2.app)(h3:b2'.cs.length≤b2.cs.length)(h4:b2'.wf=b2.wf):Apart e1 b1' e2 b2':=by
 unfold Apart at h⊢
 rw[h1,h2,h4]
 rcases h with h|⟨k1,k2,k3,k4⟩
 ·exact .inl h
 ·exact .inr ⟨k1,k2,by omega,by omega⟩
structure FromMut(P:Program)(f:FuncId)(args:List Value)(M:Mem)(v:Value)(olds:List (Nat×Option ABlk))(news:List ABlk)(src:List Nat)(l:List (Nat×ABlk))(n:Nat)(SP:Specs)(args0:List Value)(v0:Value)(M0:Mem)(keepJ newsS:List Nat):Prop where
 specs: ∀B,SpecsOk P [] B SP
 run:arun P [] SP n f args0 (startMem l src.length)=some (v0,M0)
 dist:distinct src=true
 blks: ∀p∈l,∃(a:Nat) (c:ABlk),src[p.1]?=some a∧M.get a=some c∧renL (mvIn 0 src) c.cs=some p.2.cs∧c={p.2 with cs:=c.cs}
 args:renL (mvIn 0 src) args=some args0
 wr: ∀t∈M0.log,t<src.length→(∃p∈l,p.1=t∧writable p.2)∧ ∃a:Nat,src[t]?=some a∧a∈olds.map (·.1)
 srcLt: ∀(j a:Nat),src[j]?=some a→a<M.next
 oldsIn: ∀a:Nat,a∈olds.map (·.1)→ ∃j:Nat,src[j]?=some a
 keep: ∀j∈keepJ,j<src.length
 oldS: ∀(a:Nat) (b:ABlk),(a,some b)∈olds→ ∃(j:Nat) (b0:ABlk),j∈keepJ∧src[j]?=some a∧M0.get j=some b0∧(∃r,renL (mvOld src keepJ++mvNew M.next newsS) b0.cs=some (b.cs++r))∧b={b0 with cs:=b.cs}
 newS: ∀(i:Nat) (b:ABlk),news[i]?=some b→ ∃(s:Nat) (b0:ABlk),newsS[i]?=some s∧M0.get s=some b0∧(∃r,renL (mvOld src keepJ++mvNew M.next newsS) b0.cs=some (b.cs++r))∧b={b0 with cs:=b.cs}
 newL:newsS.length=news.length
 newD:distinct newsS=true
 newO: ∀s∈newsS,s∉keepJ∧(s<src.length→ ∃a:Nat,src[s]?=some a∧a∈olds.map (·.1))
 val:renV (mvOld src keepJ++mvNew M.next newsS) v0=some v
 old0: ∀a∈olds.map (·.1),∀c,M.get a=some c→c.wf=0∧(c.app=true∨0<c.cs.length)
theorem Mem.mut_get{M:Mem}{olds:List (Nat×Option ABlk)}{news:List ABlk}{id:Nat}{b:ABlk}(h:(M.mut olds news).getA id=some b):
  (id<M.next∧id∉olds.map (·.1)∧M.getA id=some b)∨(id<M.next∧(id,some b)∈olds)∨(M.next≤id∧news[id-M.next]?=some b):=by
 obtain⟨h1,h2,h3⟩:=getA_spec.1 h
 simp only [Mem.mut] at h1 h2 h3
 rw[pushAll_get] at h3
 by_cases hn:M.next≤id
 ·rw[if_pos ⟨hn,h1⟩] at h3
  exact .inr (.inr ⟨hn,h3⟩)
 ·rw[if_neg (by omega)] at h3
  by_cases hm:id∈olds.map (·.1)
  ·have:=setAll_in (T:=M.blks) hm
   rw[h3] at this
   exact .inr (.inl ⟨by omega,this⟩)
  ·rw[setAll_out hm] at h3
   exact .inl ⟨by omega,hm,getA_spec.2 ⟨by omega,h2,h3⟩⟩
theorem Mem.mut_abs{M:Mem}{olds:List (Nat×Option ABlk)}{news:List ABlk}(ho: ∀a∈olds.map (·.1),a<M.next):Abs M (M.mut olds news) (olds.map (·.1)):=
 ⟨rfl,Nat.le_add_right _ _,rfl,fun id hid hn=>by
  simp only [Mem.mut]
  rw[pushAll_get,if_neg (by omega),setAll_out hn],fun t ht=>Nat.lt_of_lt_of_le (ho t ht) (Nat.le_add_right _ _)⟩
theorem FromMut.calls(hN:noNum P)(hm:P.follows .mixedOrders=true){f:FuncId}{args:List Value}{M:Mem}{v:Value}{olds:List (Nat×Option ABlk)}{news:List ABlk}{src:List Nat}{l:List (Nat×ABlk)}{n:Nat}{SP:Specs}{args0:List Value}{v0:Value}{M0:Mem}{keepJ newsS:List Nat}
  (hF:FromMut P f args M v olds news src l n SP args0 v0 M0 keepJ newsS) {φ:Emb} {w:World} (hR:Rel P GL B φ M w) (hG:Good φ M (M.mut olds news)) {args':Array Value} (ha:LRel φ args args'.toList):
  Calls P f args' w fun e w'=> ∃L φ' v',e= .returned v'∧(M.mut olds news).log=L++M.log∧Post P GL B φ φ' M (M.mut olds news) L w w'∧VRel φ' v v':=by
 have ho: ∀a∈olds.map (·.1),a<M.next:=fun a h=>by
  obtain⟨j,hj⟩:=hF.oldsIn a h
  exact hF.srcLt j a hj
 let φs:Emb:=fun j=>match src[j]? with
  |some a=>φ a
  |none=>none
 have hφs: ∀{j a:Nat},src[j]?=some a→φs j=φ a:=fun hj=>by simp only [φs,hj]
 have hfar: ∀{j:Nat} {e:Ent},φs j=some e→j<src.length:=fun{j e} h=>by
  by_cases hh:j<src.length
  ·exact hh
  ·simp only [φs] at h
   rw[List.getElem?_eq_none (by omega)] at h;cases h
 have hren0: ∀s t,toTgt (mvIn 0 src) s=some t→ ∀e,φ s=some e→φs t=some e:=fun s t h e he=>by
  obtain⟨fl,hmem⟩:=toTgt_mem h
  have:=(mvIn_mem hmem).2
  rw[Nat.sub_zero] at this
  rw[hφs this];exact he
 have hmem0: ∀{id b},(startMem l src.length).getA id=some b→(id,b)∈l:=fun hb=>blkTree_mem (getA_spec.1 hb).2.2
 have hwr0: ∀{p:Nat×ABlk} {c:ABlk},renL (mvIn 0 src) c.cs=some p.2.cs→c={p.2 with cs:=c.cs}→(writable p.2↔writable c):=fun{p c} h1 h2=>by
  unfold writable
  have:=renL_len h1
  rw[this,h2]
 have hR0:Rel P [] B.flat φs (startMem l src.length) w:=by
  refine⟨fun id b hb=> ?_,fun id1 id2 b1 b2 e1 e2 hne hb1 hb2 hw he1 he2=> ?_,fun g hg=>(by cases hg),fun k hk=>Bd.flat_ok.2 (hR.size k hk),fun id b hb=>(getA_spec.1 hb).1,fun x hx=>by cases hx⟩
  ·obtain⟨a,c,h1,h2,h3,h4⟩:=hF.blks _ (hmem0 hb)
   simp only at h1 h3 h4
   obtain⟨e,he,hr⟩:=hR.blk a c h2
   refine⟨e,by rw[hφs h1];exact he,.inl ⟨?_,?_,by rw[renL_len h3];exact hr.len,fun hw=>Bd.flat_ok.2 (hr.own ?_),fun q1 q2=>hr.whole (by rw[h4];exact q1) fun q3=>q2 (List.eq_nil_of_length_eq_zero (by have:=renL_len h3;rw[q3] at this;exact this)),hr.real⟩⟩
   ·rw[hr.esz,h4]
   ·obtain⟨cc,lo,hi,k1,k2,k3,k4⟩:=hr.cells
    refine⟨cc,lo,hi,by rw[h4] at k1;exact k1,k2,fun j u hu=> ?_,fun hw=> ?_⟩
    ·obtain⟨u0,q1,q2⟩:=renL_get h3 hu
     obtain⟨u',q3,q4⟩:=k3 j u0 q1
     exact⟨u',q3,renV_rel hren0 q4 q2⟩
    ·have:=k4 ((hwr0 (p:=(id,b)) h3 h4).1 hw)
     rw[h4] at this
     exact this
   ·exact(hwr0 (p:=(id,b)) h3 h4).1 hw
  ·obtain⟨a1,c1,h1,h2,h3,h4⟩:=hF.blks _ (hmem0 hb1)
   obtain⟨a2,c2,k1,k2,k3',k4'⟩:=hF.blks _ (hmem0 hb2)
   simp only at h1 h3 h4 k1
   rw[hφs h1] at he1
   rw[hφs k1] at he2
   refine(hR.sep a1 a2 c1 c2 e1 e2 (fun he=> ?_) h2 k2 ((hwr0 (p:=(id1,b1)) h3 h4).1 hw) he1 he2).congr (by rw[h4]) (by rw[k4']) (by rw[renL_len k3']) (by rw[k4'])
   subst he
   exact hne (distinct_inj hF.dist h1 k1)
 have ha0:LRel φs args0 args'.toList:=renL_rel hren0 ha hF.args
 have hG0:Good φs (startMem l src.length) M0:=fun id h1 _=>by
  simp only [φs]
  rw[List.getElem?_eq_none h1]
 have hokc:=arun_calls hN hm (hF.specs B.flat) n hF.run hR0 hG0 args' ha0
 obtain⟨L0,hA⟩:=arun_abs hN hm (hF.specs B.flat) n f args0 (startMem l src.length) v0 M0 hF.run
 have hL0:M0.log=L0:=by
  have:=hA.log
  simpa [startMem] using this
 refine hokc.mono fun e w' ⟨Ls,φs',v',he,hlog,hp,hv'⟩=> ?_
 have hLs:M0.log=Ls:=by rw[hlog];simp [startMem]
 let mv:=mvOld src keepJ++mvNew M.next newsS
 let φ':Emb:=fun id=>if id<M.next then φ id else match newsS[id-M.next]? with
  |some s=>φs' s
  |none=>φ id
 have hold: ∀{id:Nat},id<M.next→φ' id=φ id:=fun hid=>by simp only [φ'];rw[if_pos hid]
 have hnew: ∀{id s:Nat},M.next≤id→newsS[id-M.next]?=some s→φ' id=φs' s:=fun{id s} h1 h2=>by
  simp only [φ'];rw[if_neg (by omega),h2]
 have hsame: ∀{j:Nat},j<src.length→φs' j=φs j:=fun hj=>hp.ext _ (.inl hj)
 have hlt: ∀{id:Nat} {b:ABlk} {e:Ent},M.getA id=some b→φ id=some e→e.block<w.heap.size:=fun{id b e} hb he=>by
  obtain⟨e',k1,hr⟩:=hR.blkA id b hb
  rw[k1] at he
  obtain rfl:=Option.some.inj he
  exact hr.lt
 --what is logged is one of the caller's blocks that may be turned
 have hlogd: ∀{t:Nat} {e0:Ent},t∈Ls→φs t=some e0→ ∃a c,src[t]?=some a∧a∈olds.map (·.1)∧M.get a=some c∧writable c∧φ a=some e0:=fun{t e0} ht he0=>by
  obtain⟨⟨p,h1,h2,h3⟩,a,h4,h5⟩:=hF.wr t (by rw[hLs];exact ht) (hfar he0)
  obtain⟨a',c,k1,k2,k3,k4⟩:=hF.blks p h1
  rw[h2,h4] at k1;cases k1
  exact⟨a,c,h4,h5,k2,(hwr0 k3 k4).1 h3,by rw[←hφs h4];exact he0⟩
 --a block of the run that the caller had
 have hhad: ∀{s:Nat} {b0:ABlk},s<src.length→M0.get s=some b0→ ∃a c,src[s]?=some a∧M.get a=some c∧(writable b0→writable c):=fun{s b0} hs hb0=>by
  by_cases hin:s∈M0.log
  ·obtain⟨⟨p,h1,h2,h3⟩,_⟩:=hF.wr s hin hs
   obtain⟨a,c,k1,k2,k3,k4⟩:=hF.blks p h1
   rw[h2] at k1
   exact⟨a,c,k1,k2,fun _=>(hwr0 k3 k4).1 h3⟩
  ·have hk:=hA.keep s hs (by rw[←hL0];exact hin)
   have hmem:=blkTree_mem (show(blkTree l).get s=some b0 by rw[←(get_spec.1 hb0).2.2.1];exact hk.symm)
   obtain⟨a,c,k1,k2,k3,k4⟩:=hF.blks _ hmem
   exact⟨a,c,k1,k2,(hwr0 (p:=(s,b0)) k3 k4).1⟩
 have hmv: ∀{t s:Nat} {fl:Bool},(t,s,fl)∈mv→ ∀e,φs' s=some e→φ' t=some e:=fun{t s fl} hmem e he=>by
  rcases List.mem_append.1 hmem with hmem|hmem
  ·obtain⟨h1,h2⟩:=mvOld_mem hmem
   have hs:=hF.keep s h1
   have hsa:src[s]?=some src[s]:=List.getElem?_eq_getElem hs
   rw[hsa] at h2
   simp only [Option.getD_some] at h2
   subst h2
   rw[hsame hs,hφs hsa] at he
   have:src[s]<M.next:=hF.srcLt s _ hsa
   rw[hold this];exact he
  ·obtain⟨h1,h2⟩:=mvNew_mem hmem
   rw[hnew h1 h2];exact he
 have hle:φ.le φ':=fun id e he=>by
  by_cases h1:id<M.next
  ·rw[hold h1];exact he
  ·by_cases h2:id<(M.mut olds news).next
   ·rw[hG id (by omega) h2] at he;cases he
   ·have h3:newsS[id-M.next]?=none:=by
     rw[List.getElem?_eq_none_iff,hF.newL]
     simp only [Mem.mut] at h2
     omega
    simp only [φ']
    rw[if_neg h1,h3]
    exact he
 have hrenO: ∀s t,toTgt mv s=some t→ ∀e,φs' s=some e→φ' t=some e:=fun s t h e he=>by
  obtain⟨fl,hmem⟩:=toTgt_mem h
  exact hmv hmem e he
 --each block of the memory behind:an old one,untouched;or one of the run's
 have hcls: ∀{id:Nat} {b:ABlk},(M.mut olds news).getA id=some b→(id<M.next∧id∉olds.map (·.1)∧M.getA id=some b)∨
   ∃(s:Nat) (b0:ABlk),M0.get s=some b0∧(∃r,renL mv b0.cs=some (b.cs++r))∧b={b0 with cs:=b.cs}∧φ' id=φs' s∧((id<M.next∧s∈keepJ∧src[s]?=some id∧id∈olds.map (·.1))∨(M.next≤id∧newsS[id-M.next]?=some s)):=fun{id b} hb=>by
  rcases Mem.mut_get hb with h|⟨h1,h2⟩|⟨h1,h2⟩
  ·exact .inl h
  ·obtain⟨j,b0,k1,k2,k3,k4,k5⟩:=hF.oldS id b h2
   refine .inr ⟨j,b0,k3,k4,k5,?_,.inl ⟨h1,k1,k2,List.mem_map.2 ⟨_,h2,rfl⟩⟩⟩
   rw[hold h1,hsame (hF.keep j k1),hφs k2]
  ·obtain⟨s,b0,k1,k2,k3,k4⟩:=hF.newS _ b h2
   exact .inr ⟨s,b0,k2,k3,k4,hnew h1 k1,.inr ⟨h1,k1⟩⟩
 have hwr1: ∀{b b0:ABlk},(∃r,renL mv b0.cs=some (b.cs++r))→b={b0 with cs:=b.cs}→writable b→writable b0:=fun{b b0} ⟨r,h1⟩ h2 hw=>by
  unfold writable at hw⊢
  have:=renL_len h1
  rw[List.length_append] at this
  rw[h2] at hw
  simp only at hw
  rcases hw with hw|hw
  ·exact .inl hw
  ·exact .inr (by omega)
 --an old untouched block lies apart from what the run has,if one of them may be turned
 have hap: ∀{id1 s:Nat} {b1 b0:ABlk} {e1 e2:Ent},id1<M.next→id1∉olds.map (·.1)→M.getA id1=some b1→M0.get s=some b0→(s<src.length→ ∃a,src[s]?=some a∧a∈olds.map (·.1))→(writable b1∨writable b0)→φ id1=some e1→φs' s=some e2→e1.block≠e2.block:=fun{id1 s b1 b0 e1 e2} h1 h2 h3 h4 h5 hw he1 he2=>by
  by_cases hs:s<src.length
  ·obtain⟨a,k1,k2⟩:=h5 hs
   obtain⟨a',c,q1,q2,q3⟩:=hhad hs h4
   rw[k1] at q1;cases q1
   rw[hsame hs,hφs k1] at he2
   have hne:id1≠a:=fun he=>h2 (he▸k2)
   rcases hw with hw|hw
   ·obtain⟨z1,z2⟩:=hF.old0 a k2 c q2
    exact(hR.sepA id1 a b1 c e1 e2 hne h3 (get_A q2) hw he1 he2).ne (by rw[z1];exact z2)
   ·exact fun he=>(hR.sepA a id1 c b1 e2 e1 (Ne.symm hne) (get_A q2) h3 (q3 hw) he2 he1).ne0 (hF.old0 a k2 c q2).1 he.symm
  ·have hs2:s<M0.next:=(get_spec.1 h4).1
   rcases hp.newb s e2 (by simpa [startMem] using Nat.le_of_not_lt hs) hs2 he2 with k1|⟨t,k1,e0,k2,k3⟩
   ·have:=hlt h3 he1
    omega
   ·obtain⟨a,c,q1,q2,q3,q4,q5⟩:=hlogd k1 k2
    have hne:id1≠a:=fun he=>h2 (he▸q2)
    rw[←k3]
    exact fun he=>(hR.sepA a id1 c b1 e0 e1 (Ne.symm hne) (get_A q3) h3 q4 q5 he1).ne0 (hF.old0 a q2 c q3).1 he.symm
 refine⟨olds.map (·.1),φ',v',he,rfl,⟨fun id hid=> ?_,Nat.le_add_right _ _,⟨fun id b hb=> ?_,fun id1 id2 b1 b2 e1 e2 hne hb1 hb2 hw he1 he2=> ?_,fun g hg=> ?_,fun k hk2=>hR.size k (Nat.le_trans hp.fr.size hk2),fun id b hb=>(getA_spec.1 hb).1,fun x hx=>(hR.rnd x hx).step hle (by
   rcases hp.fr.block x.l (hR.rnd x hx).lt with q|⟨q,_⟩
   ·exact q
   ·exact absurd rfl ((Bd.flat_ok.1 q).2.2 x hx))⟩,
  ⟨hp.fr.os,hp.fr.tape,hp.fr.output,hp.fr.size,fun k hk=> ?_⟩,fun id e h1 h2 hid=> ?_,fun t ht=>Nat.lt_of_lt_of_le (ho t ht) (Nat.le_add_right _ _)⟩,renV_rel hrenO hv' hF.val⟩
 ·rcases hid with hid|hid
  ·exact hold hid
  ·have h3:newsS[id-M.next]?=none:=by
    rw[List.getElem?_eq_none_iff,hF.newL]
    simp only [Mem.mut] at hid
    omega
   simp only [φ']
   simp only [Mem.mut] at hid
   rw[if_neg (by omega),h3]
 ·rcases hcls hb with⟨h1,h2,h3⟩|⟨s,b0,h1,h2,h3,h4,_⟩
  ·obtain⟨e,k1,hr⟩:=hR.blkA id b h3
   refine⟨e,by rw[hold h1];exact k1,hr.keep hle ?_⟩
   rcases hp.fr.block e.block (hlt h3 k1) with q|⟨_,t,q1,e0,q2,q3⟩
   ·exact q
   ·obtain⟨a,c',r1,r2,r3,r4,r5⟩:=hlogd q1 q2
    exact absurd q3 ((hR.sepA a id c' b e0 e (fun he=>h2 (he▸r2)) (get_A r3) h3 r4 r5 k1).ne0 (hF.old0 a r2 c' r3).1)
  ·obtain⟨e,k1,hr⟩:=hp.rel.blk s b0 h1
   refine⟨e,by rw[h4];exact k1,.inl ⟨by rw[h3];exact hr.esz,?_,(by
    obtain⟨r,h2⟩:=h2
    have:=renL_len h2
    rw[List.length_append] at this
    have:=hr.len
    omega),fun hw=>Bd.flat_ok.1 (hr.own (hwr1 h2 h3 hw)),fun q1 q2=>hr.whole (by rw[h3] at q1;exact q1) fun q3=>q2 (by
     obtain⟨r,h2⟩:=h2
     have:=renL_len h2
     rw[q3] at this
     exact List.eq_nil_of_length_eq_zero (by simp only [List.length_append,List.length_nil] at this;omega)),hr.real⟩⟩
   obtain⟨c,lo,hi,k2,k3,k4,k5⟩:=hr.cells
   refine⟨c,lo,hi,by rw[h3];exact k2,k3,fun j u hu=> ?_,fun hw=> ?_⟩
   ·obtain⟨r,h2⟩:=h2
    obtain⟨u0,q1,q2⟩:=renL_get h2 (j:=j) (u:=u) (by
     have hj:j<b.cs.length:=by
      by_cases hh:j<b.cs.length
      ·exact hh
      ·rw[List.getElem?_eq_none (by omega)] at hu;cases hu
     rw[List.getElem?_append_left hj]
     exact hu)
    obtain⟨u',q3,q4⟩:=k4 j u0 q1
    exact⟨u',q3,renV_rel hrenO q4 q2⟩
   ·have:=k5 (hwr1 h2 h3 hw)
    rw[h3];exact this
 ·rcases hcls hb1 with⟨h1,h2,h3⟩|⟨s1,c1,h1,h2,h3,h4,h5⟩<;>rcases hcls hb2 with⟨k1,k2,k3⟩|⟨s2,c2,k1,k2,k3,k4,k5⟩
  ·rw[hold h1] at he1
   rw[hold k1] at he2
   exact hR.sepA id1 id2 b1 b2 e1 e2 hne h3 k3 hw he1 he2
  ·rw[hold h1] at he1
   rw[k4] at he2
   refine .inl (hap h1 h2 h3 k1 (fun hs=> ?_) (.inl hw) he1 he2)
   rcases k5 with⟨_,_,q3,q4⟩|⟨_,q2⟩
   ·exact⟨id2,q3,q4⟩
   ·exact(hF.newO s2 (List.mem_of_getElem? q2)).2 hs
  ·rw[hold k1] at he2
   rw[h4] at he1
   refine .inl (fun he=>hap k1 k2 k3 h1 (fun hs=> ?_) (.inr (hwr1 h2 h3 hw)) he2 he1 he.symm)
   rcases h5 with⟨_,_,q3,q4⟩|⟨_,q2⟩
   ·exact⟨id1,q3,q4⟩
   ·exact(hF.newO s1 (List.mem_of_getElem? q2)).2 hs
  ·rw[h4] at he1
   rw[k4] at he2
   refine(hp.rel.sep s1 s2 c1 c2 e1 e2 (fun hs=> ?_) h1 k1 (hwr1 h2 h3 hw) he1 he2).less (by rw[h3]) (by rw[k3]) (by
    obtain⟨r,k2⟩:=k2
    have:=renL_len k2
    rw[List.length_append] at this
    omega) (by rw[k3])
   subst hs
   rcases h5 with⟨_,q2,q3,_⟩|⟨q1,q2⟩<;>rcases k5 with⟨_,r2,r3,_⟩|⟨r1,r2⟩
   ·rw[q3] at r3;cases r3;exact hne rfl
   ·exact(hF.newO s1 (List.mem_of_getElem? r2)).1 q2
   ·exact(hF.newO s1 (List.mem_of_getElem? q2)).1 r2
   ·have:=distinct_inj hF.newD q2 r2
    exact hne (by omega)
 ·obtain⟨h1,e,h2,h3⟩:=hR.glob g hg
  exact⟨Nat.lt_of_lt_of_le h1 (Nat.le_add_right _ _),e,by rw[hold h1];exact h2,h3⟩
 ·rcases hp.fr.block k hk with h1|⟨h1,t,h2,e0,h3,h4⟩
  ·exact .inl h1
  ·obtain⟨a,c,r1,r2,r3,r4,r5⟩:=hlogd h2 h3
   exact .inr ⟨Bd.flat_ok.1 h1,a,r2,e0,r5,h4⟩
 ·have h1':M.next≤id:=h1
  have h2':id<M.next+news.length:=h2
  cases hs:newsS[id-M.next]? with
  |none=>
   rw[List.getElem?_eq_none_iff,hF.newL] at hs
   omega
  |some s=>
   rw[hnew h1' hs] at hid
   have hO:=hF.newO s (List.mem_of_getElem? hs)
   by_cases hsl:s<src.length
   ·obtain⟨a,q1,q2⟩:=hO.2 hsl
    rw[hsame hsl,hφs q1] at hid
    exact .inr ⟨a,q2,e,hid,rfl⟩
   ·have hs2:s<M0.next:=by
     obtain⟨s',b0,q1,q2,_⟩:=hF.newS (id-M.next) (news[id-M.next]'(by omega)) (List.getElem?_eq_getElem (by omega))
     rw[hs] at q1
     obtain rfl:=Option.some.inj q1
     exact(get_spec.1 q2).1
    rcases hp.newb s e (by simpa [startMem] using Nat.le_of_not_lt hsl) hs2 hid with q1|⟨t,q1,e0,q2,q3⟩
    ·exact .inl q1
    ·obtain⟨a,c,r1,r2,r3,r4,r5⟩:=hlogd q1 q2
     exact .inr ⟨a,r2,e0,r5,q3⟩
theorem SpecOk.ofMut(hN:noNum P)(hm:P.follows .mixedOrders=true){f:FuncId}{g:List Value→Mem→Option (Value×Mem)}
  (h: ∀args M v M',g args M=some (v,M')→ ∃olds news src l n SP args0 v0 M0 keepJ newsS,M'=M.mut olds news∧FromMut P f args M v olds news src l n SP args0 v0 M0 keepJ newsS):SpecOk P GL B f g:=by
 refine⟨fun args M v M' hg=> ?_,fun args M v M' hg φ w hR hG args' ha=> ?_⟩
 ·obtain⟨olds,news,src,l,n,SP,args0,v0,M0,keepJ,newsS,rfl,hF⟩:=h args M v M' hg
  exact⟨_,Mem.mut_abs fun a ha=>by
   obtain⟨j,hj⟩:=hF.oldsIn a ha
   exact hF.srcLt j a hj⟩
 ·obtain⟨olds,news,src,l,n,SP,args0,v0,M0,keepJ,newsS,rfl,hF⟩:=h args M v M' hg
  exact hF.calls hN hm hR hG ha
end Go.Am
namespace Go.Am
open Go
end Go.Am
namespace Go.Am
open Go
variable{P:Program}{GL:List Nat}{B:Bd}
end Go.Am
end

noncomputable section
namespace Go.Am
open Go
variable{P:Program}{GL:List Nat}{B:Bd}
abbrev i64(z:Int):Value:= .int .i64 z
abbrev pt(b o:Nat):Value:= .pointer (some ⟨b,o,none⟩)
def modI(x n:Int):Int:=if x.tmod n<0 then x.tmod n+n else x.tmod n
theorem modI_range{x n:Int}(hn:0<n):0≤modI x n∧modI x n<n:=by
 have hlt:x.tmod n<n:=Int.tmod_lt_of_pos x hn
 have hgt: -n<x.tmod n:=Int.lt_tmod_of_pos x hn
 unfold modI
 split<;>omega
theorem modI_neg{x n:Int}(hn:0<n)(hn2:n<2^62)(h:x.tmod n<0):IntKind.wrap .i64 (x.tmod n+n)=modI x n:=by
 have hgt: -n<x.tmod n:=Int.lt_tmod_of_pos x hn
 rw[IntWalk.i64_in _ (by omega)]
 unfold modI;rw[if_pos h]
theorem modI_pos{x n:Int}(h: ¬x.tmod n<0):x.tmod n=modI x n:=by
 unfold modI;rw[if_neg h]
end Go.Am
namespace Go.Am
open Go
end Go.Am
end

namespace Go.Am
open Go Go.ChangeShapes Go.WideShapes
variable{P:Program}{w:World}
theorem sameAt_kept{w':World}(h:Kept w w'){p:MemPlace}(hp:p.block<w.heap.size):w.sameAt w' p:=by
 cases p with
 |cell b off=>
  show w'.cell? _=w.cell? _
  unfold World.cell?
  rw[h.block b hp]
 |map b=>exact h.block b hp
theorem trodAll_kept{H:Type}{enc:TypeId×Value→H}{w':World}{base:Nat}(hl:laidOutB P=true)(hk:Kept w w'){sp:Nat→Bool}: ∀{ts:List TypeId} {vs:List Value} {ds:List (DataW H)} {ps:List MemPlace},
  (∀t∈ts,P.readableRec t=true∧t<P.types.size)→DataW.TrodAll enc P w base (fun _=>true) true ts vs ds ps→(∀p∈ps,p.block<w.heap.size)→(∀p∈ps,sp p.block=true)→DataW.TrodAll enc P w' base sp true ts vs ds ps
 | [],vs,ds,ps,_,h,_,_=>by
  obtain⟨rfl,rfl,rfl⟩:=trodAll_nil h
  exact trodAll_mk0
 |t::ts,vs,ds,ps,ht,h,hp,hs=>by
  obtain⟨v,vs1,d,ds1,p,q,rfl,rfl,rfl,h1,h2⟩:=trodAll_cons h
  refine⟨p,q,?_,trodAll_kept hl hk (fun t h=>ht t (List.mem_cons_of_mem _ h)) h2 (fun x hx=>hp x (List.mem_append_right _ hx)) (fun x hx=>hs x (List.mem_append_right _ hx)),rfl⟩
  exact Go.WideElems.Trod_stays hl (ht t (List.mem_cons_self ..)).1 (ht t (List.mem_cons_self ..)).2 h1 (fun x hx=>sameAt_kept hk (hp x (List.mem_append_left _ hx))) (fun x hx=>hs x (List.mem_append_left _ hx))
end Go.Am

noncomputable section
namespace Go.Am
open Go Go.ChangeShapes Go.WideShapes Go.ChangeAt Go.RowKit
variable{P:Program}{GL:List Nat}{B:Bd}
section
variable{H:Type}{enc:TypeId×Value→H}{w:World}{held:Bool}
end
end Go.Am
namespace Go.Am
open Go
variable{P:Program}
end Go.Am
end
