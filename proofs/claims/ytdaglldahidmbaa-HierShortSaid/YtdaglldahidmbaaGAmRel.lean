/-
  Package hier: each of its laws for every argument; no conditions. The last text states which.
-/
import Derived.Test.YtdaglldahidmbaaAmDefs
set_option linter.unusedVariables false
set_option linter.unusedSimpArgs false
noncomputable section
namespace Go.Am
open Go
section tr
variable{α:Type}
theorem Tr.get_zero(t:Tr α):t.get 0=t.val:=by cases t<;>rfl
theorem Tr.get_succ(t:Tr α)(n:Nat):t.get (n+1)=bif Nat.beq (n%2) 0 then t.left.get (n/2) else t.right.get (n/2):=by
 cases t
 ·show(none:Option α)=bif Nat.beq (n%2) 0 then none else none
  cases Nat.beq (n%2) 0<;>rfl
 ·rename_i v l r
  show Bool.rec (r.get (n/2)) (l.get (n/2)) (Nat.beq (n%2) 0)=bif Nat.beq (n%2) 0 then l.get (n/2) else r.get (n/2)
  cases Nat.beq (n%2) 0<;>rfl
theorem Tr.get_setF(a:Option α): ∀(f n:Nat) (t:Tr α) (m:Nat),n<f->(Tr.setF a f t n).get m=if m=n then a else t.get m
 |0,n,t,m,h=>absurd h (Nat.not_lt_zero _)
 |f+1,0,t,m,_=>by
  have e:Tr.setF a (f+1) t 0= .node a t.left t.right:=by cases t<;>rfl
  rw[e]
  cases m with
  |zero=>rfl
  |succ m=>rw[Tr.get_succ t m,Tr.get_succ _ m];simp [Tr.left,Tr.right]
 |f+1,n+1,t,m,h=>by
  have ih:=Tr.get_setF a f (n/2)
  have e:Tr.setF a (f+1) t (n+1)=bif Nat.beq (n%2) 0 then .node t.val (Tr.setF a f t.left (n/2)) t.right else .node t.val t.left (Tr.setF a f t.right (n/2)):=by
   have e1: ∀b:Bool,(Bool.rec (Tr.rec (motive:=fun _=>Tr α) (.node none .nil (Tr.setF a f .nil (n/2))) (fun v l r _ _=> .node v l (Tr.setF a f r (n/2))) t)
    (Tr.rec (motive:=fun _=>Tr α) (.node none (Tr.setF a f .nil (n/2)) .nil) (fun v l r _ _=> .node v (Tr.setF a f l (n/2)) r) t) b:Tr α)=bif b then .node t.val (Tr.setF a f t.left (n/2)) t.right else .node t.val t.left (Tr.setF a f t.right (n/2)):=fun b=>by
    cases b<;>cases t<;>rfl
   exact e1 _
  rw[e]
  have b0:Nat.beq 0 0=true:=rfl
  have b1:Nat.beq 1 0=false:=rfl
  have a0:n/2<f:=by omega
  cases m with
  |zero=>rcases Nat.mod_two_eq_zero_or_one n with hn|hn<;>rw[hn]<;>simp [b1,Tr.get_zero]<;>rfl
  |succ m=>
   rw[Tr.get_succ t m,Tr.get_succ _ m]
   rcases Nat.mod_two_eq_zero_or_one n with hn|hn<;>rcases Nat.mod_two_eq_zero_or_one m with hm|hm<;>rw[hn,hm]<;>simp only [b0,b1,cond_true,cond_false,Tr.left,Tr.right]
   ·show(Tr.setF a f t.left (n/2)).get (m/2)=_
    rw[ih _ _ a0]
    by_cases e:m=n
    ·subst e;simp
    ·rw[if_neg (by omega),if_neg (by omega)];rfl
   ·rw[if_neg (by omega)]
   ·rw[if_neg (by omega)]
   ·show(Tr.setF a f t.right (n/2)).get (m/2)=_
    rw[ih _ _ a0]
    by_cases e:m=n
    ·subst e;simp
    ·rw[if_neg (by omega),if_neg (by omega)];rfl
theorem Tr.get_set(t:Tr α)(n:Nat)(a:Option α)(m:Nat):(t.set n a).get m=if m=n then a else t.get m:=
 Tr.get_setF a (n+1) n t m (Nat.lt_succ_self n)
end tr
structure pO where
 block:Nat
 base:Nat
 tot:Nat
 esz:Nat
def zD(e:pO):Prop:=e.base=1/\e.tot=0/\e.esz=oX
abbrev dH:=Nat->Option pO
def Hd(φ:dH)(a a':Addr):Prop:=
 a.spot=none/\a'.spot=none/\ ∃e,φ a.block=some e/\a'.block=e.block/\a'.off=e.base+a.off
def Pq(φ:dH)(a a':Addr)(len cap cap':Nat):Prop:=
 a.spot=none/\a'.spot=none/\len<=cap'/\(cap=len\/cap=cap'+1)/\
  ∃e,φ a.block=some e/\(cap'=0\/(a'.block=e.block/\a'.off=e.base+a.off/\a.off+cap'*e.esz<=e.tot))
mutual
inductive bA(φ:dH):Value->Value->Prop where
 |leaf {v:Value} (h:leaf v=true):bA φ v v
 |ptr {a a':Addr} (h:Hd φ a a'):bA φ (.pointer (some a)) (.pointer (some a'))
 |slice {a a':Addr} {len cap cap':Nat} (h:Pq φ a a' len cap cap'):bA φ (.slice (some a) len cap) (.slice (some a') len cap')
 |hollow {a a':Addr} (h:a.spot≠none):bA φ (.slice (some a) 0 0) (.slice (some a') 0 0)
 |func {fn:Fn} {x x' y y':List Value} (hf:mW fn=false) (hx:bZ φ x x') (hy:bZ φ y y'):bA φ (.func fn ⟨x⟩ ⟨y⟩) (.func fn ⟨x'⟩ ⟨y'⟩)
 |yld {r:Nat} {e:pO} (h:φ r=some e):bA φ (.func (.yield r) ⟨[]⟩ ⟨[]⟩) (.func (.yield e.block) ⟨[]⟩ ⟨[]⟩)
 |map {r:Nat} {e:pO} (h:φ r=some e) (hm:zD e):bA φ (.map (some r)) (.map (some e.block))
 |iface {t:TypeId} {v v':Value} (h:bA φ v v'):bA φ (.iface t v) (.iface t v')
 |agg {x x':List Value} (h:bZ φ x x'):bA φ (.agg ⟨x⟩) (.agg ⟨x'⟩)
 |tuple {x x':List Value} (h:bZ φ x x'):bA φ (.tuple ⟨x⟩) (.tuple ⟨x'⟩)
inductive bZ(φ:dH):List Value->List Value->Prop where
 |nil:bZ φ [] []
 |cons {v v':Value} {l l':List Value} (h:bA φ v v') (hl:bZ φ l l'):bZ φ (v::l) (v'::l')
end
def dH.le(φ ψ:dH):Prop:= ∀id e,φ id=some e->ψ id=some e
theorem dH.le_refl(φ:dH):φ.le φ:=fun _ _ h=>h
theorem Hd.mono{φ ψ:dH}(h:φ.le ψ){a a':Addr}:Hd φ a a'->Hd ψ a a'
 |⟨h1,h2,e,he,h3⟩=>⟨h1,h2,e,h _ _ he,h3⟩
theorem Pq.mono{φ ψ:dH}(h:φ.le ψ){a a':Addr}{l c c':Nat}:Pq φ a a' l c c'->Pq ψ a a' l c c'
 |⟨h1,h2,h3,h4,e,he,h5⟩=>⟨h1,h2,h3,h4,e,h _ _ he,h5⟩
mutual
theorem bA.mono{φ ψ:dH}(h:φ.le ψ): ∀{v v':Value},bA φ v v'->bA ψ v v'
 |_,_,.leaf hl=> .leaf hl
 |_,_,.ptr ha=> .ptr (ha.mono h)
 |_,_,.slice hs=> .slice (hs.mono h)
 |_,_,.hollow hs=> .hollow hs
 |_,_,.func hf hx hy=> .func hf (bZ.mono h hx) (bZ.mono h hy)
 |_,_,.yld he=> .yld (h _ _ he)
 |_,_,.map he hm=> .map (h _ _ he) hm
 |_,_,.iface hv=> .iface (bA.mono h hv)
 |_,_,.agg hl=> .agg (bZ.mono h hl)
 |_,_,.tuple hl=> .tuple (bZ.mono h hl)
theorem bZ.mono{φ ψ:dH}(h:φ.le ψ): ∀{l l':List Value},bZ φ l l'->bZ ψ l l'
 |_,_,.nil=> .nil
 |_,_,.cons hv hl=> .cons (bA.mono h hv) (bZ.mono h hl)
end
mutual
theorem bA.of_flat{φ:dH}: ∀{v v':Value},bA φ v v'->flat v=true->v'=v
 |_,_,.leaf _,_=>rfl
 |_,_,.ptr _,h=>by simp [flat] at h
 |_,_,.slice _,h=>by simp [flat] at h
 |_,_,.hollow _,h=>by simp [flat] at h
 |_,_,.func hf hx hy,h=>by
  simp [flat,nP] at h
  rw[bZ.of_flat hx h.2.1,bZ.of_flat hy h.2.2]
 |_,_,.yld _,h=>by simp [flat,mW] at h
 |_,_,.map _ _,h=>by simp [flat] at h
 |_,_,.iface hv,h=>by rw[bA.of_flat hv (by simpa [flat] using h)]
 |_,_,.agg hl,h=>by rw[bZ.of_flat hl (by simpa [flat,nP] using h)]
 |_,_,.tuple hl,h=>by rw[bZ.of_flat hl (by simpa [flat,nP] using h)]
theorem bZ.of_flat{φ:dH}: ∀{l l':List Value},bZ φ l l'->dD l=true->l'=l
 |_,_,.nil,_=>rfl
 |_,_,.cons hv hl,h=>by
  simp [dD] at h
  rw[bA.of_flat hv h.1,bZ.of_flat hl h.2]
end
mutual
theorem bA.refl_flat(φ:dH): ∀(v:Value),flat v=true->bA φ v v
 | .bool _,_=> .leaf rfl
 | .int _ _,_=> .leaf rfl
 | .float _ _,_=> .leaf rfl
 | .complex _ _ _,_=> .leaf rfl
 | .string _,_=> .leaf rfl
 | .pointer none,_=> .leaf rfl
 | .pointer (some _),h=>by simp [flat] at h
 | .slice none l c,h=>by
  simp [flat] at h
  obtain⟨rfl,rfl⟩:=h
  exact .leaf rfl
 | .slice (some _) _ _,h=>by simp [flat] at h
 | .map none,_=> .leaf rfl
 | .map (some _),h=>by simp [flat] at h
 | .chan none,_=> .leaf rfl
 | .chan (some _),h=>by simp [flat] at h
 | .func _ ⟨x⟩ ⟨y⟩,h=>by
  simp [flat,nP] at h
  exact .func h.1 (bZ.refl_flat φ x h.2.1) (bZ.refl_flat φ y h.2.2)
 | .nilFunc,_=> .leaf rfl
 | .iface _ v,h=> .iface (bA.refl_flat φ v (by simpa [flat] using h))
 | .nilIface,_=> .leaf rfl
 | .agg ⟨x⟩,h=> .agg (bZ.refl_flat φ x (by simpa [flat,nP] using h))
 | .tuple ⟨x⟩,h=> .tuple (bZ.refl_flat φ x (by simpa [flat,nP] using h))
theorem bZ.refl_flat(φ:dH): ∀(l:List Value),dD l=true->bZ φ l l
 | [],_=> .nil
 |v::l,h=>by
  simp [dD] at h
  exact .cons (bA.refl_flat φ v h.1) (bZ.refl_flat φ l h.2)
end
section inv
variable{φ:dH}
theorem bA.bool_inv{b:Bool}{v':Value}(h:bA φ (.bool b) v'):v'= .bool b:=h.of_flat rfl
theorem bA.int_inv{k:IntKind}{n:Int}{v':Value}(h:bA φ (.int k n) v'):v'= .int k n:=h.of_flat rfl
theorem bA.ptr_inv{a:Addr}{v':Value}(h:bA φ (.pointer (some a)) v'): ∃a',v'= .pointer (some a')/\Hd φ a a':=by
 cases h with
 |leaf h=>simp [Go.Am.leaf] at h
 |ptr h=>exact⟨_,rfl,h⟩
theorem bA.slice_or{a:Addr}{l c:Nat}{v':Value}(h:bA φ (.slice (some a) l c) v'):(∃a' c',v'= .slice (some a') l c'/\Pq φ a a' l c c')\/(∃a',v'= .slice (some a') 0 0/\l=0/\c=0/\a.spot≠none):=by
 cases h with
 |leaf h=>simp [Go.Am.leaf] at h
 |slice h=>exact .inl ⟨_,_,rfl,h⟩
 |hollow h=>exact .inr ⟨_,rfl,rfl,rfl,h⟩
theorem bA.slice_inv{a:Addr}{l c:Nat}{v':Value}(h:bA φ (.slice (some a) l c) v')(hs:a.spot=none): ∃a' c',v'= .slice (some a') l c'/\Pq φ a a' l c c':=by
 rcases h.slice_or with h|⟨_,_,_,_,h⟩
 ·exact h
 ·exact absurd hs h
theorem bA.slice_sh{a:Addr}{l c:Nat}{v':Value}(h:bA φ (.slice (some a) l c) v'): ∃a' c',v'= .slice (some a') l c':=by
 rcases h.slice_or with⟨a',c',h1,_⟩|⟨a',h1,h2,_,_⟩
 ·exact⟨a',c',h1⟩
 ·exact⟨a',0,by rw[h2];exact h1⟩
theorem bA.iface_inv{t:TypeId}{v v':Value}(h:bA φ (.iface t v) v'): ∃u,v'= .iface t u/\bA φ v u:=by
 cases h with
 |leaf h=>simp [Go.Am.leaf] at h
 |iface h=>exact⟨_,rfl,h⟩
theorem bA.agg_inv{x:Array Value}{v':Value}(h:bA φ (.agg x) v'): ∃x',v'= .agg x'/\bZ φ x.toList x'.toList:=by
 cases h with
 |leaf h=>simp [Go.Am.leaf] at h
 |agg h=>exact⟨_,rfl,h⟩
theorem bA.tuple_inv{x:Array Value}{v':Value}(h:bA φ (.tuple x) v'): ∃x',v'= .tuple x'/\bZ φ x.toList x'.toList:=by
 cases h with
 |leaf h=>simp [Go.Am.leaf] at h
 |tuple h=>exact⟨_,rfl,h⟩
theorem bA.func_inv{fn:Fn}{x y:Array Value}{v':Value}(hf:mW fn=false)(h:bA φ (.func fn x y) v'): ∃x' y',v'= .func fn x' y'/\bZ φ x.toList x'.toList/\bZ φ y.toList y'.toList:=by
 cases h with
 |leaf h=>simp [Go.Am.leaf] at h
 |func _ h k=>exact⟨_,_,rfl,h,k⟩
 |yld _=>simp [mW] at hf
theorem bA.func_sh{fn:Fn}{x y:Array Value}{v':Value}(h:bA φ (.func fn x y) v'): ∃fn' x' y',v'= .func fn' x' y':=by
 cases h with
 |leaf h=>simp [Go.Am.leaf] at h
 |func _ h k=>exact⟨_,_,_,rfl⟩
 |yld _=>exact⟨_,_,_,rfl⟩
theorem bA.yld_inv{r:Nat}{v':Value}(h:bA φ (.func (.yield r) #[] #[]) v'): ∃e,φ r=some e/\v'= .func (.yield e.block) #[] #[]:=by
 cases h with
 |leaf h=>simp [Go.Am.leaf] at h
 |func hf _ _=>simp [mW] at hf
 |yld h=>exact⟨_,h,rfl⟩
theorem bA.map_inv{r:Nat}{v':Value}(h:bA φ (.map (some r)) v'): ∃e,φ r=some e/\zD e/\v'= .map (some e.block):=by
 cases h with
 |leaf h=>simp [Go.Am.leaf] at h
 |map h hm=>exact⟨_,h,hm,rfl⟩
theorem bA.agg'{x x':List Value}(h:bZ φ x x'):bA φ (.agg x.toArray) (.agg x'.toArray):= .agg h
theorem bA.tuple'{x x':List Value}(h:bZ φ x x'):bA φ (.tuple x.toArray) (.tuple x'.toArray):= .tuple h
theorem bZ.length: ∀{l l':List Value},bZ φ l l'->l'.length=l.length
 |_,_,.nil=>rfl
 |_,_,.cons _ h=>by simp [bZ.length h]
theorem bZ.get: ∀{l l':List Value},bZ φ l l'-> ∀{j:Nat} {v:Value},l[j]?=some v-> ∃v',l'[j]?=some v'/\bA φ v v'
 |_,_,.nil,_,_,h=>by simp at h
 |_,_,.cons hv hl,0,_,h=>by simp at h;subst h;exact⟨_,rfl,hv⟩
 |_,_,.cons hv hl,j+1,_,h=>by simp at h;simpa using bZ.get hl h
theorem bZ.of_get: ∀{l l':List Value},l'.length=l.length->(∀(j:Nat) (v v':Value),l[j]?=some v->l'[j]?=some v'->bA φ v v')->bZ φ l l'
 | [],[],_,_=> .nil
 | [],_::_,h,_=>by simp at h
 |_::_,[],h,_=>by simp at h
 |v::l,v'::l',h,hh=> .cons (hh 0 v v' rfl rfl) (bZ.of_get (by simpa using h) fun j a b ha hb=>hh (j+1) a b (by simpa using ha) (by simpa using hb))
theorem bZ.append{a a' b b':List Value}(h:bZ φ a a')(k:bZ φ b b'):bZ φ (a++b) (a'++b'):=by
 match h with
 | .nil=>exact k
 | .cons hv hl=>exact .cons hv (bZ.append hl k)
theorem bZ.drop: ∀{l l':List Value} (n:Nat),bZ φ l l'->bZ φ (l.drop n) (l'.drop n)
 |_,_,0,h=>h
 |_,_,_+1,.nil=> .nil
 |_,_,n+1,.cons _ h=>bZ.drop n h
theorem bZ.take: ∀{l l':List Value} (n:Nat),bZ φ l l'->bZ φ (l.take n) (l'.take n)
 |_,_,0,_=> .nil
 |_,_,_+1,.nil=> .nil
 |_,_,n+1,.cons h k=> .cons h (bZ.take n k)
theorem bA.cells{v v':Value}(h:bA φ v v'):bZ φ v.cells.toList v'.cells.toList:=by
 cases h with
 |agg h=>exact h
 |leaf h=>cases v<;>first|exact .cons (.leaf h) .nil|(simp [Go.Am.leaf] at h)
 |ptr h=>exact .cons (.ptr h) .nil
 |slice h=>exact .cons (.slice h) .nil
 |hollow h=>exact .cons (.hollow h) .nil
 |func hf h k=>exact .cons (.func hf h k) .nil
 |yld h=>exact .cons (.yld h) .nil
 |map h hm=>exact .cons (.map h hm) .nil
 |iface h=>exact .cons (.iface h) .nil
 |tuple h=>exact .cons (.tuple h) .nil
theorem bA.isCell{v v':Value}(h:bA φ v v'):isCell v'=isCell v:=by
 cases h<;>rfl
theorem bZ.isCell: ∀{l l':List Value},bZ φ l l'->l'.all isCell=l.all isCell
 |_,_,.nil=>rfl
 |_,_,.cons h k=>by simp [h.isCell,bZ.isCell k]
end inv
structure Rnd where
 r:Nat
 l:Nat
 R0:Loop
 T:Tr Value
 n:Nat
structure Bd where
 n:Nat
 no:List Nat
 rs:List Rnd
def Bd.ok(B:Bd)(k:Nat):Prop:=B.n<=k/\k∉B.no/\ ∀x∈B.rs,k≠x.l
def bd(n:Nat):Bd:=⟨n,[],[]⟩
instance:Coe Nat Bd:=⟨bd⟩
instance(n:Nat):OfNat Bd n:=⟨bd n⟩
theorem Xd{n k:Nat}(h:n<=k):(bd n).ok k:=⟨h,by simp [bd],fun x hx=>by simp [bd] at hx⟩
def gM(φ:dH)(T:Tr Value)(n:Nat)(tmps:Array Value):Prop:=
 tmps.size=n/\ ∀t v,T.get t=some v-> ∃v',tmps[t]?=some v'/\bA φ v v'
def Bd.flat(B:Bd):Bd:=⟨B.n,B.no++B.rs.map (·.l),[]⟩
theorem Bd.flat_ok{B:Bd}{k:Nat}:B.flat.ok k↔B.ok k:=by
 constructor
 ·rintro⟨h1,h2,_⟩
  simp only [Bd.flat,List.mem_append,not_or] at h1 h2
  exact⟨h1,h2.1,fun x hx hk=>h2.2 (by rw[hk];exact List.mem_map_of_mem hx)⟩
 ·rintro⟨h1,h2,h3⟩
  refine⟨h1,?_,fun x hx=>by cases hx⟩
  simp only [Bd.flat,List.mem_append,not_or]
  refine⟨h2,fun h=> ?_⟩
  obtain⟨x,hx,he⟩:=List.mem_map.1 h
  exact h3 x hx he.symm
def Xv(z tot:Nat):Nat:=bif Nat.beq z 1 then tot else tot+1
theorem Tb(z tot:Nat):tot<=Xv z tot:=by unfold Xv;cases Nat.beq z 1<;>simp
theorem Vw{z tot off j:Nat}(h:j<Xv z (tot-off))(ho:off<=tot):off+j<Xv z tot:=by
 revert h
 unfold Xv
 cases Nat.beq z 1<;>simp only [cond_true,cond_false]<;>intro h<;>omega
structure mJ(P:Program)(B:Bd)(φ:dH)(w:World)(e:pO)(b:aQ):Prop where
 esz:e.esz=b.esz
 cells: ∃c lo hi,w.heap[e.block]?=some (.cells c b.elem (lo,hi))/\c.size=e.base+e.tot/\
  (∀j v,b.cs[j]?=some v-> ∃v',c[e.base+j]?=some v'/\bA φ v v')/\
  ((b.app=true\/b.wf<b.cs.length)-> ∀j,b.wf<=j->j<Xv b.esz e.tot-> ¬(lo<=e.base+j/\e.base+j<hi))
 len:b.cs.length<=e.tot
 own:(b.app=true\/b.wf<b.cs.length)->B.ok e.block
 whole:b.esz=0->b.cs≠ []->e.base=0
 real: ¬zD e
inductive vA(φ:dH):List Value->List MapEntry->Prop where
 |nil:vA φ [] []
 |cons {e:MapEntry} {v:Value} {l:List Value} {es:List MapEntry} (h:bA φ v e.val) (hl:vA φ l es):vA φ (e.key::v::l) (e::es)
theorem vA.mono{φ ψ:dH}(h:φ.le ψ): ∀{l:List Value} {es:List MapEntry},vA φ l es->vA ψ l es
 |_,_,.nil=> .nil
 |_,_,.cons hv hl=> .cons (hv.mono h) (vA.mono h hl)
structure MRel(P:Program)(B:Bd)(φ:dH)(w:World)(e:pO)(b:aQ):Prop where
 isE:zD e
 isM:dJ b=true
 lies: ∃es clock,w.heap[e.block]?=some (.map es clock)/\vA φ b.cs es.toList/\(es.toList.map (·.key)).Nodup/\(∀x∈es.toList,∃l,keyOf P b.elem x.key=some l)
 own:B.ok e.block
 app:b.app=true
 wf:b.wf=0
def pP(P:Program)(B:Bd)(φ:dH)(w:World)(e:pO)(b:aQ):Prop:=mJ P B φ w e b\/MRel P B φ w e b
theorem pP.row{P:Program}{B:Bd}{φ:dH}{w:World}{e:pO}{b:aQ}(h:pP P B φ w e b)(hb:dJ b=false):mJ P B φ w e b:=by
 rcases h with h|h
 ·exact h
 ·rw[h.isM] at hb;cases hb
theorem pP.ro{P:Program}{B:Bd}{φ:dH}{w:World}{e:pO}{b:aQ}(h:pP P B φ w e b)(hb:b.app=false):mJ P B φ w e b:=by
 rcases h with h|h
 ·exact h
 ·rw[h.app] at hb;cases hb
theorem pP.map{P:Program}{B:Bd}{φ:dH}{w:World}{e:pO}{b:aQ}(h:pP P B φ w e b)(he:zD e):MRel P B φ w e b:=by
 rcases h with h|h
 ·exact absurd he h.real
 ·exact h
theorem pP.own{P:Program}{B:Bd}{φ:dH}{w:World}{e:pO}{b:aQ}(h:pP P B φ w e b)(hw:b.app=true\/b.wf<b.cs.length):B.ok e.block:=by
 rcases h with h|h
 ·exact h.own hw
 ·exact h.own
def oH(e1:pO)(b1:aQ)(e2:pO)(b2:aQ):Prop:=
 e1.block≠e2.block\/(0<b1.wf/\b2.app=false/\b2.cs.length<=b2.wf/\e2.base+b2.cs.length<=e1.base+b1.wf)
theorem oH.congr{e1 e2:pO}{b1 b1' b2 b2':aQ}(h:oH e1 b1 e2 b2)(h1:b1'.wf=b1.wf)(h2:b2'.app=b2.app)(h3:b2'.cs.length=b2.cs.length)(h4:b2'.wf=b2.wf):oH e1 b1' e2 b2':=by
 unfold oH at h⊢
 rw[h1,h2,h3,h4]
 exact h
theorem oH.ne{e1 e2:pO}{b1 b2:aQ}(h:oH e1 b1 e2 b2)(hw:b2.app=true\/b2.wf<b2.cs.length):e1.block≠e2.block:=by
 rcases h with h|⟨_,h1,h2,_⟩
 ·exact h
 ·rcases hw with hw|hw
  ·rw[h1] at hw;cases hw
  ·omega
theorem oH.ne0{e1 e2:pO}{b1 b2:aQ}(h:oH e1 b1 e2 b2)(hw:b1.wf=0):e1.block≠e2.block:=by
 rcases h with h|⟨h1,_⟩
 ·exact h
 ·omega
structure sN(φ:dH)(w:World)(x:Rnd):Prop where
 emb: ∃e,φ x.r=some e/\e.block=x.l
 lies:w.heap[x.l]?=some (.loop x.R0)
 tmps:gM φ x.T x.n x.R0.tmps
theorem sN.step{φ φ':dH}{w w':World}{x:Rnd}(h:sN φ w x)(hle:φ.le φ')(hb:w'.heap[x.l]?=w.heap[x.l]?):sN φ' w' x:=
 ⟨let ⟨e,he,h1⟩:=h.emb;⟨e,hle _ _ he,h1⟩,hb.trans h.lies,h.tmps.1,fun t v hv=>let ⟨v',h1,h2⟩:=h.tmps.2 t v hv;⟨v',h1,h2.mono hle⟩⟩
theorem sN.lt{φ:dH}{w:World}{x:Rnd}(h:sN φ w x):x.l<w.heap.size:=by
 rcases Nat.lt_or_ge x.l w.heap.size with h1|h1
 ·exact h1
 ·have:=h.lies
  rw[Array.getElem?_eq_none h1] at this;cases this
structure gV(P:Program)(GL:List Nat)(B:Bd)(φ:dH)(M:aA)(w:World):Prop where
 blkA: ∀id b,M.getA id=some b-> ∃e,φ id=some e/\pP P B φ w e b
 sepA: ∀id1 id2 b1 b2 e1 e2,id1≠id2->M.getA id1=some b1->M.getA id2=some b2->(b1.app=true\/b1.wf<b1.cs.length)->
  φ id1=some e1->φ id2=some e2->oH e1 b1 e2 b2
 glob: ∀g∈GL,g<M.next/\ ∃e,φ g=some e/\e.block=g/\e.base=0
 size: ∀k,w.heap.size<=k->B.ok k
 idsA: ∀id b,M.getA id=some b->id<M.next
 rnd: ∀x∈B.rs,sN φ w x
structure Fr(B:Bd)(φ:dH)(L:List Nat)(w w':World):Prop where
 os:w'.os=w.os
 tape:w'.tape=w.tape
 output:w'.output=w.output
 size:w.heap.size<=w'.heap.size
 block: ∀k,k<w.heap.size->w'.heap[k]?=w.heap[k]?\/(B.ok k/\ ∃t∈L,∃e,φ t=some e/\e.block=k)
structure Post(P:Program)(GL:List Nat)(B:Bd)(φ φ':dH)(M M':aA)(L:List Nat)(w w':World):Prop where
 ext: ∀id,(id<M.next\/M'.next<=id)->φ' id=φ id
 next:M.next<=M'.next
 rel:gV P GL B φ' M' w'
 fr:Fr B φ L w w'
 newb: ∀id e,M.next<=id->id<M'.next->φ' id=some e->w.heap.size<=e.block\/ ∃t∈L,∃e0,φ t=some e0/\e0.block=e.block
 logb: ∀t∈L,t<M'.next
theorem bM{M:aA}{id:Nat}{b:aQ}:M.getA id=some b↔id<M.next/\aY M.hide id=false/\M.blks.get id=some b:=by
 unfold aA.getA
 cases h1:Nat.blt id M.next<;>cases h2:aY M.hide id<;>simp
 all_goals
  first
   |(intro h;have:Nat.blt id M.next=true:=Nat.ble_eq_true_of_le h;rw[h1] at this;cases this)
   |(intro _;exact Nat.le_of_ble_eq_true h1)
theorem gO{M:aA}{id:Nat}{b:aQ}(h:M.get id=some b):M.getA id=some b:=by
 unfold aA.get On at h
 split at h
 ·rename_i b0 h0
  cases hm:dJ b0<;>simp [hm] at h
  subst h;exact h0
 ·cases h
theorem yZ{M:aA}{id:Nat}{b:aQ}(h:M.get id=some b):dJ b=false:=by
 unfold aA.get On at h
 split at h
 ·rename_i b0 h0
  cases hm:dJ b0<;>simp [hm] at h
  subst h;exact hm
 ·cases h
theorem zA{M:aA}{id:Nat}{b:aQ}(h:M.getA id=some b)(hb:dJ b=false):M.get id=some b:=by
 unfold aA.get On
 rw[h];simp [hb]
theorem bX{M:aA}{id:Nat}{b:aQ}:M.get id=some b↔id<M.next/\aY M.hide id=false/\M.blks.get id=some b/\dJ b=false:=
 ⟨fun h=>let ⟨h1,h2,h3⟩:=bM.1 (gO h);⟨h1,h2,h3,yZ h⟩,fun⟨h1,h2,h3,h4⟩=>zA (bM.2 ⟨h1,h2,h3⟩) h4⟩
theorem Wp{b:aQ}(hb:dJ b=false)(ha:b.app=true){e:pO}(he:e.esz=b.esz): ¬zD e:=fun hx=>by
 have h1:b.esz=oX:=he.symm.trans hx.2.2
 have h2:dJ b=true:=by unfold dJ;rw[h1,ha];rfl
 rw[h2] at hb;cases hb
theorem yY{M:aA}{id:Nat}{b:aQ}:M.getM id=some b↔M.getA id=some b/\dJ b=true:=by
 unfold aA.getM mapO
 constructor
 ·intro h
  split at h
  ·rename_i b0 h0
   cases hm:dJ b0<;>simp [hm] at h
   subst h;exact⟨h0,hm⟩
  ·cases h
 ·rintro⟨h1,h2⟩
  rw[h1];simp [h2]
theorem gV.blk{P:Program}{GL:List Nat}{B:Bd}{φ:dH}{M:aA}{w:World}(h:gV P GL B φ M w)(id:Nat)(b:aQ)(hb:M.get id=some b): ∃e,φ id=some e/\mJ P B φ w e b:=by
 obtain⟨e,h1,h2⟩:=h.blkA id b (gO hb)
 exact⟨e,h1,h2.row (yZ hb)⟩
theorem gV.sep{P:Program}{GL:List Nat}{B:Bd}{φ:dH}{M:aA}{w:World}(h:gV P GL B φ M w)(a0 a1:Nat)(b1 b2:aQ)(e1 e2:pO)(a2:a0≠a1)(h1:M.get a0=some b1)(h2:M.get a1=some b2)
  (hw:b1.app=true\/b1.wf<b1.cs.length) (k1:φ a0=some e1) (k2:φ a1=some e2):oH e1 b1 e2 b2:=h.sepA a0 a1 b1 b2 e1 e2 a2 (gO h1) (gO h2) hw k1 k2
theorem gV.ids{P:Program}{GL:List Nat}{B:Bd}{φ:dH}{M:aA}{w:World}(h:gV P GL B φ M w)(id:Nat)(b:aQ)(hb:M.get id=some b):id<M.next:=h.idsA id b (gO hb)
theorem Fr.refl(B:Bd)(φ:dH)(L:List Nat)(w:World):Fr B φ L w w:=⟨rfl,rfl,rfl,Nat.le_refl _,fun _ _=> .inl rfl⟩
end Go.Am
end

noncomputable section
namespace Go.Am
open Go
variable{P:Program}{GL:List Nat}
structure lL(M M':aA)(L:List Nat):Prop where
 hide:M'.hide=M.hide
 next:M.next<=M'.next
 log:M'.log=L++M.log
 keep: ∀id,id<M.next->id∉L->M'.blks.get id=M.blks.get id
 logb: ∀t∈L,t<M'.next
theorem lL.refl(M:aA):lL M M []:=⟨rfl,Nat.le_refl _,rfl,fun _ _ _=>rfl,fun t ht=>by cases ht⟩
theorem lL.trans{M M1 M2:aA}{L1 L2:List Nat}(h:lL M M1 L1)(k:lL M1 M2 L2):lL M M2 (L2++L1):=
 ⟨k.hide.trans h.hide,Nat.le_trans h.next k.next,by rw[k.log,h.log,List.append_assoc],fun id hi hn=>by
  rw[k.keep id (Nat.lt_of_lt_of_le hi h.next) (fun x=>hn (by simp [x])),h.keep id hi (fun x=>hn (by simp [x]))],fun t ht=>by
  rcases List.mem_append.1 ht with ht|ht
  ·exact k.logb t ht
  ·exact Nat.lt_of_lt_of_le (h.logb t ht) k.next⟩
theorem lL.alloc(M:aA)(b:aQ):lL M (M.alloc b) []:=
 ⟨rfl,Nat.le_succ _,rfl,fun id hi _=>by simp only [aA.alloc,Tr.get_set];rw[if_neg (by omega)],fun t ht=>by cases ht⟩
theorem lL.put(M:aA){i:Nat}(hi:i<M.next)(b:Option aQ):lL M (M.put i b) [i]:=
 ⟨rfl,Nat.le_refl _,rfl,fun id _ hn=>by
  simp only [aA.put,Tr.get_set]
  rw[if_neg (by simpa using hn)],fun t ht=>by simp at ht;subst ht;exact hi⟩
def bS(callF:cR):Prop:= ∀f args M v M',callF f args M=some (v,M')-> ∃L,lL M M' L
structure dW(k:Nat)(M M':aA):Prop where
 quiet:k=0->M'=M
 ex: ∃L,lL M M' L/\(k<=1->L= [])
theorem dW.one{M:aA}:dW 1 M M:=⟨fun h=>(by cases h),[],lL.refl M,fun _=>rfl⟩
theorem dW.zero{M:aA}:dW 0 M M:=⟨fun _=>rfl,[],lL.refl M,fun _=>rfl⟩
theorem dW.alloc{M:aA}{b:aQ}:dW 1 M (M.alloc b):=⟨fun h=>(by cases h),[],lL.alloc M b,fun _=>rfl⟩
theorem dW.put{M:aA}{i:Nat}{b:Option aQ}(hi:i<M.next):dW 2 M (M.put i b):=⟨fun h=>(by cases h),[i],lL.put M hi b,fun h=>by omega⟩
theorem dW.putAlloc{M:aA}{i:Nat}{x:Option aQ}{b:aQ}(hi:i<M.next):dW 2 M ((M.put i x).alloc b):=
 ⟨fun h=>(by cases h),[]++ [i],(lL.put M hi x).trans (lL.alloc _ b),fun h=>by omega⟩
theorem dW.made{M M':aA}{v:Value}{z:Nat}{elem:TypeId}{cs:List Value}{k:Nat}{r:AR}(h:Go.Am.made v (nW z elem cs M)=some (k,r,M')):dW k M M':=by
 simp [Go.Am.made] at h
 obtain⟨rfl,_,rfl⟩:=h
 exact dW.alloc
theorem vK{m:Nat}: ∀{l:List Nat} {t:Nat},t∈l->t<m->t∈kH m l
 | [],_,h,_=>by cases h
 |x::l,t,h,hlt=>by
  unfold kH
  rcases List.mem_cons.1 h with rfl|h
  ·have:Nat.blt t m=true:=Nat.ble_eq_true_of_le hlt
   simp [this]
  ·cases hb:Nat.blt x m<;>simp [vK h hlt]
theorem yK{m t:Nat}: ∀{l:List Nat},t∈kH m l->t<m
 | [],h=>by cases h
 |x::l,h=>by
  unfold kH at h
  cases hb:Nat.blt x m<;>simp only [hb,cond_true,cond_false] at h
  ·exact yK h
  ·rcases List.mem_cons.1 h with rfl|h
   ·exact Nat.le_of_ble_eq_true hb
   ·exact yK h
theorem yF{a0:cR}(hC:bS a0){f:FuncId}{args:List Value}{M M':aA}{k:Nat}{r:AR}(h:kP a0 f args M=some (k,r,M')):dW k M M':=by
 unfold kP at h
 split at h
 ·rename_i v M1 hcall
  obtain⟨L,h1,h2,h3,h4,h5⟩:=hC _ _ _ _ _ hcall
  simp only [List.append_nil] at h3
  split at h
  ·rename_i hnil
   simp at h
   obtain⟨rfl,_,rfl⟩:=h
   refine⟨fun h=>(by cases h),[],⟨rfl,h2,rfl,fun id hi _=>h4 id hi fun hm=> ?_,fun t ht=>by cases ht⟩,fun _=>rfl⟩
   have:=vK (h3▸hm) hi
   rw[hnil] at this;cases this
  ·simp at h
   obtain⟨rfl,_,rfl⟩:=h
   exact⟨fun h=>(by cases h),_,⟨rfl,h2,rfl,fun id hi hn=>h4 id hi fun hm=>hn (vK (h3▸hm) hi),fun t ht=>Nat.lt_of_lt_of_le (yK ht) h2⟩,fun h=>by omega⟩
 ·simp at h
theorem lT{a0:cR}(hC:bS a0){o:Oper}{T:Tr Value}{M M':aA}{k:Nat}{r:AR}(h:jO P GL a0 o T M=some (k,r,M')):dW k M M':=by
 unfold jO at h
 split at h
 ·simp at h
  obtain⟨rfl,_,rfl⟩:=h
  exact dW.zero
 ·replace h:fD P GL a0 o T M=some (k,r,M'):=by
   split at h
   ·cases h
   ·exact h
  unfold fD at h
  split at h
  ·unfold cN at h
   split at h<;>try (simp at h;done)
   split at h<;>try (simp at h;done)
   rename_i i z _ _ _ v _
   cases hb:(flat v&&v.cells.toList.all isCell)<;>simp only [hb,cond_true,cond_false] at h
   ·simp at h
   ·exact dW.made h
  ·split at h<;>try (simp at h;done)
   rename_i v _
   unfold eL at h
   split at h<;>try (simp at h;done)
   cases hb:(v.cells.toList.all isCell)<;>simp only [hb,cond_true,cond_false] at h
   ·simp at h
   ·exact dW.made h
  ·split at h<;>try (simp at h;done)
   unfold bH at h
   split at h<;>try (simp at h;done)
   split at h<;>try (simp at h;done)
   split at h<;>try (simp at h;done)
   rename_i e _ _ z _
   generalize (flat z&&z.cells.toList.all isCell&&Nat.beq z.cells.toList.length e.size&& !Nat.beq e.size 0&&Nat.ble _ (2^24))=b at h
   cases b<;>simp only [cond_true,cond_false] at h
   ·simp at h
   ·split at h<;>try (simp at h;done)
    rename_i cs _
    cases hb:cs.all isCell<;>simp only [hb,cond_true,cond_false] at h
    ·simp at h
    ·exact dW.made h
  ·split at h<;>try (simp at h;done)
   split at h<;>try (simp at h;done)
   simp at h
   obtain⟨rfl,_,rfl⟩:=h
   exact dW.one
  ·split at h<;>try (simp at h;done)
   split at h<;>try (simp at h;done)
   rename_i M1 hs
   simp at h
   obtain⟨rfl,_,rfl⟩:=h
   unfold eF at hs
   split at hs<;>try (simp at hs;done)
   rename_i b i hgb _
   generalize (Nat.beq _ i.size&&_&&_&&_)=q at hs
   cases q<;>simp only [cond_true,cond_false] at hs
   ·simp at hs
   ·simp at hs;subst hs;exact dW.put (bX.1 hgb).1
  ·split at h<;>try (simp at h;done)
   unfold qR at h
   split at h<;>try (simp at h;done)
   ·split at h<;>try (simp at h;done)
    rename_i i _ _
    generalize (Nat.beq i.size 1&&_)=q at h
    cases q<;>simp only [cond_true,cond_false] at h
    ·simp at h
    ·exact dW.made h
   ·split at h<;>try (simp at h;done)
    split at h<;>try (simp at h;done)
    split at h<;>try (simp at h;done)
    simp at h
    obtain⟨rfl,_,rfl⟩:=h
    exact dW.one
   ·split at h<;>try (simp at h;done)
    generalize (_||_)=q at h
    cases q<;>simp only [cond_true,cond_false] at h
    ·simp at h
     obtain⟨rfl,_,rfl⟩:=h
     exact dW.one
    ·simp at h
   ·split at h<;>try (simp at h;done)
    generalize (_||_||_||_||_)=q at h
    cases q<;>simp only [cond_true,cond_false] at h
    ·simp at h
     obtain⟨rfl,_,rfl⟩:=h
     exact dW.one
    ·simp at h
  ·split at h<;>try (simp at h;done)
   unfold bU at h
   split at h<;>try (simp at h;done)
   split at h<;>try (simp at h;done)
   split at h<;>try (simp at h;done)
   rename_i e _ _ z _
   generalize (flat z&&_&&_&&_&&_&&_&&_&&_)=b at h
   cases b<;>simp only [cond_true,cond_false] at h
   ·simp at h
   ·exact dW.made h
  ·split at h<;>try (simp at h;done)
   split at h<;>try (simp at h;done)
   simp at h
   obtain⟨rfl,_,rfl⟩:=h
   exact dW.one
  ·split at h
   ·split at h<;>try (simp at h;done)
    split at h
    ·rename_i g _ _ _
     cases hb:eY P g<;>simp only [hb,cond_true,cond_false] at h
     ·unfold Mv at h
      split at h<;>try (simp at h;done)
      generalize (_&&_)=q at h
      cases q<;>simp only [cond_true,cond_false] at h
      ·simp at h
      ·simp at h
       obtain⟨rfl,_,rfl⟩:=h
       exact dW.one
     ·exact yF hC h
    ·unfold Hr at h
     split at h<;>try (simp at h;done)
     exact yF hC h
   ·split at h<;>try (simp at h;done)
    split at h<;>try (simp at h;done)
    rename_i g _
    cases hb:eY P g<;>simp only [hb,cond_true,cond_false] at h
    ·simp at h
    ·exact yF hC h
   ·split at h<;>try (simp at h;done)
    unfold dF at h
    split at h<;>try (simp at h;done)
    split at h<;>try (simp at h;done)
    split at h<;>try (simp at h;done)
    split at h<;>try (simp at h;done)
    ·generalize (!_||_||_)=q at h
     cases q<;>simp only [cond_true,cond_false] at h
     ·rename_i n _ _ _ _ _ _ _ _
      generalize Nat.beq _ 0=q at h
      cases q<;>simp only [cond_true,cond_false] at h
      ·exact dW.made h
      ·simp at h
       obtain⟨rfl,_,rfl⟩:=h
       exact dW.one
     ·simp at h
    ·split at h<;>try (simp at h;done)
     split at h<;>try (simp at h;done)
     generalize (!_||_||_||_||_||_)=q at h
     cases q<;>simp only [cond_true,cond_false] at h
     ·generalize Nat.beq _ 0=q at h
      cases q<;>simp only [cond_true,cond_false] at h
      ·generalize Nat.beq _ _=q at h
       cases q<;>simp only [Bool.not_false,Bool.not_true,cond_true,cond_false] at h
       ·generalize Nat.ble _ _=q at h
        cases q<;>simp only [cond_true,cond_false] at h
        ·generalize (_&&_)=q at h
         cases q<;>simp only [cond_true,cond_false] at h
         ·simp at h
         ·simp at h
          obtain⟨rfl,_,rfl⟩:=h
          exact dW.put (bX.1 ‹M.get _=some _›).1
        ·exact dW.made h
       ·generalize (aQ.app _&&_)=q at h
        cases q<;>simp only [cond_true,cond_false] at h
        ·simp at h
        ·generalize (Ad _ _&&_)=q at h
         cases q<;>simp only [cond_true,cond_false] at h
         ·generalize (_||_)=q at h
          cases q<;>simp only [cond_true,cond_false] at h
          ·simp at h
          ·simp at h
           obtain⟨rfl,_,rfl⟩:=h
           exact dW.putAlloc (bX.1 ‹M.get _=some _›).1
         ·simp at h
          obtain⟨rfl,_,rfl⟩:=h
          exact dW.putAlloc (bX.1 ‹M.get _=some _›).1
      ·simp at h
       obtain⟨rfl,_,rfl⟩:=h
       exact dW.one
     ·simp at h
   ·split at h<;>try (simp at h;done)
    unfold Jj at h
    split at h<;>try (simp at h;done)
    split at h<;>try (simp at h;done)
    split at h<;>try (simp at h;done)
    ·simp at h
     obtain⟨rfl,_,rfl⟩:=h
     exact dW.one
    ·split at h<;>try (simp at h;done)
     generalize (!_||_||_||_)=q at h
     cases q<;>simp only [cond_true,cond_false] at h
     ·simp at h
      obtain⟨rfl,_,rfl⟩:=h
      exact dW.put (bX.1 ‹M.get _=some _›).1
     ·simp at h
   ·split at h<;>try (simp at h;done)
    unfold Hl at h
    split at h<;>try (simp at h;done)
    split at h<;>try (simp at h;done)
    split at h<;>try (simp at h;done)
    generalize (_&&_&&_&&_&&_&&_)=q at h
    cases q<;>simp only [cond_true,cond_false] at h
    ·simp at h
    ·simp at h
     obtain⟨rfl,_,rfl⟩:=h
     exact dW.put (bX.1 ‹M.get _=some _›).1
   ·split at h<;>try (simp at h;done)
    unfold Hq at h
    split at h<;>try (simp at h;done)
    split at h<;>try (simp at h;done)
    split at h<;>try (simp at h;done)
    split at h<;>try (simp at h;done)
    generalize (_&&_&&_&&_&&_)=q at h
    cases q<;>simp only [cond_true,cond_false] at h
    ·simp at h
    ·simp at h
     obtain⟨rfl,_,rfl⟩:=h
     exact dW.put (bX.1 ‹M.get _=some _›).1
   ·simp at h
  ·split at h<;>try (simp at h;done)
   unfold wU at h
   split at h<;>try (simp at h;done)
   generalize Sw _=q at h
   cases q<;>simp only [cond_true,cond_false] at h
   ·simp at h
   ·simp at h
    obtain⟨rfl,_,rfl⟩:=h
    exact dW.alloc
  ·split at h<;>try (simp at h;done)
   unfold Bh at h
   split at h<;>try (simp at h;done)
   split at h<;>try (simp at h;done)
   generalize (_&&_)=q at h
   cases q<;>simp only [cond_true,cond_false] at h
   ·simp at h
   ·split at h
    all_goals
     simp at h
     obtain⟨rfl,_,rfl⟩:=h
     exact dW.one
  ·split at h<;>try (simp at h;done)
   unfold rJ at h
   split at h<;>try (simp at h;done)
   split at h<;>try (simp at h;done)
   rename_i hb
   generalize (_&&_)=q at h
   cases q<;>simp only [cond_true,cond_false] at h
   ·simp at h
   ·simp at h
    obtain⟨rfl,_,rfl⟩:=h
    exact dW.put (bM.1 (yY.1 hb).1).1
  ·simp at h
end Go.Am
end
