/-
  Package hier: each of its laws for every argument; no conditions. The last text states which.
-/
import Derived.Test.YtdaglldahidmbaaGreatAmDefs
set_option linter.unusedVariables false
set_option linter.unusedSimpArgs false
noncomputable section
namespace Go.Am
open Go
section tr
variable{α:Type}
theorem Tr.get_zero(t:Tr α):t.get 0=t.val:=by cases t<;>rfl
theorem Tr.get_succ(t:Tr α)(n:Nat):t.get (n+1)=bif Nat.beq (n%2) 0 then t.left.get (n/2) else t.right.get (n/2):=by
 cases t
 ·show(none:Option α)=bif Nat.beq (n%2) 0 then none else none
  cases Nat.beq (n%2) 0<;>rfl
 ·rename_i v l r;show Bool.rec (r.get (n/2)) (l.get (n/2)) (Nat.beq (n%2) 0)=bif Nat.beq (n%2) 0 then l.get (n/2) else r.get (n/2)
  cases Nat.beq (n%2) 0<;>rfl
theorem Tr.get_setF(a:Option α):∀(f n:Nat) (t:Tr α) (m:Nat),n<f->(Tr.setF a f t n).get m=if m=n then a else t.get m
 |0,n,t,m,h=>absurd h (Nat.not_lt_zero _)
 |f+1,0,t,m,_=>by
  have e:Tr.setF a (f+1) t 0= .node a t.left t.right:=by cases t<;>rfl
  rw[e];cases m with
  |zero=>rfl
  |succ m=>rw[Tr.get_succ t m,Tr.get_succ _ m];simp [Tr.left,Tr.right]
 |f+1,n+1,t,m,h=>by
  have ih:=Tr.get_setF a f (n/2);have e:Tr.setF a (f+1) t (n+1)=bif Nat.beq (n%2) 0 then .node t.val (Tr.setF a f t.left (n/2)) t.right else .node t.val t.left (Tr.setF a f t.right (n/2)):=by
   have e1:∀b:Bool,(Bool.rec (Tr.rec (motive:=fun _=>Tr α) (.node none .nil (Tr.setF a f .nil (n/2))) (fun v l r _ _=> .node v l (Tr.setF a f r (n/2))) t)
    (Tr.rec (motive:=fun _=>Tr α) (.node none (Tr.setF a f .nil (n/2)) .nil) (fun v l r _ _=> .node v (Tr.setF a f l (n/2)) r) t) b:Tr α)=bif b then .node t.val (Tr.setF a f t.left (n/2)) t.right else .node t.val t.left (Tr.setF a f t.right (n/2)):=fun b=>by
    cases b<;>cases t<;>rfl
   exact e1 _
  rw[e];have b0:Nat.beq 0 0=true:=rfl;have b1:Nat.beq 1 0=false:=rfl;have a0:n/2<f:=by omega
  cases m with
  |zero=>rcases Nat.mod_two_eq_zero_or_one n with hn|hn<;>rw[hn]<;>simp [b1,Tr.get_zero]<;>rfl
  |succ m=>
   rw[Tr.get_succ t m,Tr.get_succ _ m]
   rcases Nat.mod_two_eq_zero_or_one n with hn|hn<;>rcases Nat.mod_two_eq_zero_or_one m with hm|hm<;>rw[hn,hm]<;>simp only [b0,b1,cond_true,cond_false,Tr.left,Tr.right]
   ·show(Tr.setF a f t.left (n/2)).get (m/2)=_;rw[ih _ _ a0];by_cases e:m=n
    ·subst e;simp
    ·rw[if_neg (by omega),if_neg (by omega)];rfl
   ·rw[if_neg (by omega)]
   ·rw[if_neg (by omega)]
   ·show(Tr.setF a f t.right (n/2)).get (m/2)=_;rw[ih _ _ a0];by_cases e:m=n
    ·subst e;simp
    ·rw[if_neg (by omega),if_neg (by omega)];rfl
theorem Tr.get_set(t:Tr α)(n:Nat)(a:Option α)(m:Nat):(t.set n a).get m=if m=n then a else t.get m:=
 Tr.get_setF a (n+1) n t m (Nat.lt_succ_self n)
end tr
structure pW where
 block:Nat
 base:Nat
 tot:Nat
 esz:Nat
def zG(e:pW):Prop:=e.base=1/\e.tot=0/\e.esz=nY
abbrev dX:=Nat->Option pW
def Gz(φ:dX)(a a':Addr):Prop:=
 a.spot=none/\a'.spot=none/\∃e,φ a.block=some e/\a'.block=e.block/\a'.off=e.base+a.off
def Po(φ:dX)(a a':Addr)(len cap cap':Nat):Prop:=
 a.spot=none/\a'.spot=none/\len<=cap'/\(cap=len\/cap=cap'+1)/\
  ∃e,φ a.block=some e/\(cap'=0\/(a'.block=e.block/\a'.off=e.base+a.off/\a.off+cap'*e.esz<=e.tot))
mutual
inductive bH(φ:dX):Value->Value->Prop where
 |leaf {v:Value} (h:leaf v=true):bH φ v v
 |ptr {a a':Addr} (h:Gz φ a a'):bH φ (.pointer (some a)) (.pointer (some a'))
 |slice {a a':Addr} {len cap cap':Nat} (h:Po φ a a' len cap cap'):bH φ (.slice (some a) len cap) (.slice (some a') len cap')
 |hollow {a a':Addr} (h:a.spot≠none):bH φ (.slice (some a) 0 0) (.slice (some a') 0 0)
 |func {fn:Fn} {x x' y y':List Value} (hf:nF fn=false) (hx:cE φ x x') (hy:cE φ y y'):bH φ (.func fn ⟨x⟩ ⟨y⟩) (.func fn ⟨x'⟩ ⟨y'⟩)
 |yld {r:Nat} {e:pW} (h:φ r=some e):bH φ (.func (.yield r) ⟨[]⟩ ⟨[]⟩) (.func (.yield e.block) ⟨[]⟩ ⟨[]⟩)
 |map {r:Nat} {e:pW} (h:φ r=some e) (hm:zG e):bH φ (.map (some r)) (.map (some e.block))
 |iface {t:TypeId} {v v':Value} (h:bH φ v v'):bH φ (.iface t v) (.iface t v')
 |agg {x x':List Value} (h:cE φ x x'):bH φ (.agg ⟨x⟩) (.agg ⟨x'⟩)
 |tuple {x x':List Value} (h:cE φ x x'):bH φ (.tuple ⟨x⟩) (.tuple ⟨x'⟩)
inductive cE(φ:dX):List Value->List Value->Prop where
 |nil:cE φ [] []
 |cons {v v':Value} {l l':List Value} (h:bH φ v v') (hl:cE φ l l'):cE φ (v::l) (v'::l')
end
def dX.le(φ ψ:dX):Prop:=∀id e,φ id=some e->ψ id=some e
theorem dX.le_refl(φ:dX):φ.le φ:=fun _ _ h=>h
theorem Gz.mono{φ ψ:dX}(h:φ.le ψ){a a':Addr}:Gz φ a a'->Gz ψ a a'
 |⟨h1,h2,e,he,h3⟩=>⟨h1,h2,e,h _ _ he,h3⟩
theorem Po.mono{φ ψ:dX}(h:φ.le ψ){a a':Addr}{l c c':Nat}:Po φ a a' l c c'->Po ψ a a' l c c'
 |⟨h1,h2,h3,h4,e,he,h5⟩=>⟨h1,h2,h3,h4,e,h _ _ he,h5⟩
mutual
theorem bH.mono{φ ψ:dX}(h:φ.le ψ):∀{v v':Value},bH φ v v'->bH ψ v v'
 |_,_,.leaf hl=> .leaf hl
 |_,_,.ptr ha=> .ptr (ha.mono h)
 |_,_,.slice hs=> .slice (hs.mono h)
 |_,_,.hollow hs=> .hollow hs
 |_,_,.func hf hx hy=> .func hf (cE.mono h hx) (cE.mono h hy)
 |_,_,.yld he=> .yld (h _ _ he)
 |_,_,.map he hm=> .map (h _ _ he) hm
 |_,_,.iface hv=> .iface (bH.mono h hv)
 |_,_,.agg hl=> .agg (cE.mono h hl)
 |_,_,.tuple hl=> .tuple (cE.mono h hl)
theorem cE.mono{φ ψ:dX}(h:φ.le ψ):∀{l l':List Value},cE φ l l'->cE ψ l l'
 |_,_,.nil=> .nil
 |_,_,.cons hv hl=> .cons (bH.mono h hv) (cE.mono h hl)
end
mutual
theorem bH.of_flat{φ:dX}:∀{v v':Value},bH φ v v'->flat v=true->v'=v
 |_,_,.leaf _,_=>rfl
 |_,_,.ptr _,h=>by simp [flat] at h
 |_,_,.slice _,h=>by simp [flat] at h
 |_,_,.hollow _,h=>by simp [flat] at h
 |_,_,.func hf hx hy,h=>by
  simp [flat,nZ] at h;rw[cE.of_flat hx h.2.1,cE.of_flat hy h.2.2]
 |_,_,.yld _,h=>by simp [flat,nF] at h
 |_,_,.map _ _,h=>by simp [flat] at h
 |_,_,.iface hv,h=>by rw[bH.of_flat hv (by simpa [flat] using h)]
 |_,_,.agg hl,h=>by rw[cE.of_flat hl (by simpa [flat,nZ] using h)]
 |_,_,.tuple hl,h=>by rw[cE.of_flat hl (by simpa [flat,nZ] using h)]
theorem cE.of_flat{φ:dX}:∀{l l':List Value},cE φ l l'->dU l=true->l'=l
 |_,_,.nil,_=>rfl
 |_,_,.cons hv hl,h=>by
  simp [dU] at h;rw[bH.of_flat hv h.1,cE.of_flat hl h.2]
end
mutual
theorem bH.refl_flat(φ:dX):∀(v:Value),flat v=true->bH φ v v
 | .bool _,_=> .leaf rfl
 | .int _ _,_=> .leaf rfl
 | .float _ _,_=> .leaf rfl
 | .complex _ _ _,_=> .leaf rfl
 | .string _,_=> .leaf rfl
 | .pointer none,_=> .leaf rfl
 | .pointer (some _),h=>by simp [flat] at h
 | .slice none l c,h=>by
  simp [flat] at h;obtain⟨rfl,rfl⟩:=h;exact .leaf rfl
 | .slice (some _) _ _,h=>by simp [flat] at h
 | .map none,_=> .leaf rfl
 | .map (some _),h=>by simp [flat] at h
 | .chan none,_=> .leaf rfl
 | .chan (some _),h=>by simp [flat] at h
 | .func _ ⟨x⟩ ⟨y⟩,h=>by
  simp [flat,nZ] at h;exact .func h.1 (cE.refl_flat φ x h.2.1) (cE.refl_flat φ y h.2.2)
 | .nilFunc,_=> .leaf rfl
 | .iface _ v,h=> .iface (bH.refl_flat φ v (by simpa [flat] using h))
 | .nilIface,_=> .leaf rfl
 | .agg ⟨x⟩,h=> .agg (cE.refl_flat φ x (by simpa [flat,nZ] using h))
 | .tuple ⟨x⟩,h=> .tuple (cE.refl_flat φ x (by simpa [flat,nZ] using h))
theorem cE.refl_flat(φ:dX):∀(l:List Value),dU l=true->cE φ l l
 | [],_=> .nil
 |v::l,h=>by
  simp [dU] at h;exact .cons (bH.refl_flat φ v h.1) (cE.refl_flat φ l h.2)
end
section inv
variable{φ:dX}
theorem bH.bool_inv{b:Bool}{v':Value}(h:bH φ (.bool b) v'):v'= .bool b:=h.of_flat rfl
theorem bH.int_inv{k:IntKind}{n:Int}{v':Value}(h:bH φ (.int k n) v'):v'= .int k n:=h.of_flat rfl
theorem bH.ptr_inv{a:Addr}{v':Value}(h:bH φ (.pointer (some a)) v'):∃a',v'= .pointer (some a')/\Gz φ a a':=by
 cases h with
 |leaf h=>simp [Go.Am.leaf] at h
 |ptr h=>exact⟨_,rfl,h⟩
theorem bH.slice_or{a:Addr}{l c:Nat}{v':Value}(h:bH φ (.slice (some a) l c) v'):(∃a' c',v'= .slice (some a') l c'/\Po φ a a' l c c')\/(∃a',v'= .slice (some a') 0 0/\l=0/\c=0/\a.spot≠none):=by
 cases h with
 |leaf h=>simp [Go.Am.leaf] at h
 |slice h=>exact .inl ⟨_,_,rfl,h⟩
 |hollow h=>exact .inr ⟨_,rfl,rfl,rfl,h⟩
theorem bH.slice_inv{a:Addr}{l c:Nat}{v':Value}(h:bH φ (.slice (some a) l c) v')(hs:a.spot=none):∃a' c',v'= .slice (some a') l c'/\Po φ a a' l c c':=by
 rcases h.slice_or with h|⟨_,_,_,_,h⟩
 ·exact h
 ·exact absurd hs h
theorem bH.slice_sh{a:Addr}{l c:Nat}{v':Value}(h:bH φ (.slice (some a) l c) v'):∃a' c',v'= .slice (some a') l c':=by
 rcases h.slice_or with⟨a',c',h1,_⟩|⟨a',h1,h2,_,_⟩
 ·exact⟨a',c',h1⟩
 ·exact⟨a',0,by rw[h2];exact h1⟩
theorem bH.iface_inv{t:TypeId}{v v':Value}(h:bH φ (.iface t v) v'):∃u,v'= .iface t u/\bH φ v u:=by
 cases h with
 |leaf h=>simp [Go.Am.leaf] at h
 |iface h=>exact⟨_,rfl,h⟩
theorem bH.agg_inv{x:Array Value}{v':Value}(h:bH φ (.agg x) v'):∃x',v'= .agg x'/\cE φ x.toList x'.toList:=by
 cases h with
 |leaf h=>simp [Go.Am.leaf] at h
 |agg h=>exact⟨_,rfl,h⟩
theorem bH.tuple_inv{x:Array Value}{v':Value}(h:bH φ (.tuple x) v'):∃x',v'= .tuple x'/\cE φ x.toList x'.toList:=by
 cases h with
 |leaf h=>simp [Go.Am.leaf] at h
 |tuple h=>exact⟨_,rfl,h⟩
theorem bH.func_inv{fn:Fn}{x y:Array Value}{v':Value}(hf:nF fn=false)(h:bH φ (.func fn x y) v'):∃x' y',v'= .func fn x' y'/\cE φ x.toList x'.toList/\cE φ y.toList y'.toList:=by
 cases h with
 |leaf h=>simp [Go.Am.leaf] at h
 |func _ h k=>exact⟨_,_,rfl,h,k⟩
 |yld _=>simp [nF] at hf
theorem bH.func_sh{fn:Fn}{x y:Array Value}{v':Value}(h:bH φ (.func fn x y) v'):∃fn' x' y',v'= .func fn' x' y':=by
 cases h with
 |leaf h=>simp [Go.Am.leaf] at h
 |func _ h k=>exact⟨_,_,_,rfl⟩
 |yld _=>exact⟨_,_,_,rfl⟩
theorem bH.yld_inv{r:Nat}{v':Value}(h:bH φ (.func (.yield r) #[] #[]) v'):∃e,φ r=some e/\v'= .func (.yield e.block) #[] #[]:=by
 cases h with
 |leaf h=>simp [Go.Am.leaf] at h
 |func hf _ _=>simp [nF] at hf
 |yld h=>exact⟨_,h,rfl⟩
theorem bH.map_inv{r:Nat}{v':Value}(h:bH φ (.map (some r)) v'):∃e,φ r=some e/\zG e/\v'= .map (some e.block):=by
 cases h with
 |leaf h=>simp [Go.Am.leaf] at h
 |map h hm=>exact⟨_,h,hm,rfl⟩
theorem bH.agg'{x x':List Value}(h:cE φ x x'):bH φ (.agg x.toArray) (.agg x'.toArray):= .agg h
theorem bH.tuple'{x x':List Value}(h:cE φ x x'):bH φ (.tuple x.toArray) (.tuple x'.toArray):= .tuple h
theorem cE.length:∀{l l':List Value},cE φ l l'->l'.length=l.length
 |_,_,.nil=>rfl
 |_,_,.cons _ h=>by simp [cE.length h]
theorem cE.get:∀{l l':List Value},cE φ l l'->∀{j:Nat} {v:Value},l[j]?=some v->∃v',l'[j]?=some v'/\bH φ v v'
 |_,_,.nil,_,_,h=>by simp at h
 |_,_,.cons hv hl,0,_,h=>by simp at h;subst h;exact⟨_,rfl,hv⟩
 |_,_,.cons hv hl,j+1,_,h=>by simp at h;simpa using cE.get hl h
theorem cE.of_get:∀{l l':List Value},l'.length=l.length->(∀(j:Nat) (v v':Value),l[j]?=some v->l'[j]?=some v'->bH φ v v')->cE φ l l'
 | [],[],_,_=> .nil
 | [],_::_,h,_=>by simp at h
 |_::_,[],h,_=>by simp at h
 |v::l,v'::l',h,hh=> .cons (hh 0 v v' rfl rfl) (cE.of_get (by simpa using h) fun j a b ha hb=>hh (j+1) a b (by simpa using ha) (by simpa using hb))
theorem cE.append{a a' b b':List Value}(h:cE φ a a')(k:cE φ b b'):cE φ (a++b) (a'++b'):=by
 match h with
 | .nil=>exact k
 | .cons hv hl=>exact .cons hv (cE.append hl k)
theorem cE.drop:∀{l l':List Value} (n:Nat),cE φ l l'->cE φ (l.drop n) (l'.drop n)
 |_,_,0,h=>h
 |_,_,_+1,.nil=> .nil
 |_,_,n+1,.cons _ h=>cE.drop n h
theorem cE.take:∀{l l':List Value} (n:Nat),cE φ l l'->cE φ (l.take n) (l'.take n)
 |_,_,0,_=> .nil
 |_,_,_+1,.nil=> .nil
 |_,_,n+1,.cons h k=> .cons h (cE.take n k)
theorem bH.cells{v v':Value}(h:bH φ v v'):cE φ v.cells.toList v'.cells.toList:=by
 cases h with
 |agg h=>exact h
 |leaf h=>cases v<;>first|exact .cons (.leaf h) .nil|(simp [Go.Am.leaf] at h)
 |ptr h=>exact .cons (.ptr h) .nil
 |slice h=>exact .cons (.slice h) .nil
 |hollow h=>exact .cons (.hollow h) .nil
 |func hf h k=>exact .cons (.func hf h k) .nil
 |yld h=>exact .cons (.yld h) .nil
 |map h hm=>exact .cons (.map h hm) .nil
 |iface h=>exact .cons (.iface h) .nil
 |tuple h=>exact .cons (.tuple h) .nil
theorem bH.isCell{v v':Value}(h:bH φ v v'):isCell v'=isCell v:=by cases h<;>rfl
theorem cE.isCell:∀{l l':List Value},cE φ l l'->l'.all isCell=l.all isCell
 |_,_,.nil=>rfl
 |_,_,.cons h k=>by simp [h.isCell,cE.isCell k]
end inv
structure Rnd where
 r:Nat
 l:Nat
 R0:Loop
 T:Tr Value
 n:Nat
structure Bd where
 n:Nat
 no:List Nat
 rs:List Rnd
def Bd.ok(B:Bd)(k:Nat):Prop:=B.n<=k/\k∉B.no/\∀x∈B.rs,k≠x.l
def bd(n:Nat):Bd:=⟨n,[],[]⟩
instance:Coe Nat Bd:=⟨bd⟩
instance(n:Nat):OfNat Bd n:=⟨bd n⟩
theorem Xe{n k:Nat}(h:n<=k):(bd n).ok k:=⟨h,by simp [bd],fun x hx=>by simp [bd] at hx⟩
def gO(φ:dX)(T:Tr Value)(n:Nat)(tmps:Array Value):Prop:=
 tmps.size=n/\∀t v,T.get t=some v->∃v',tmps[t]?=some v'/\bH φ v v'
def Bd.flat(B:Bd):Bd:=⟨B.n,B.no++B.rs.map (·.l),[]⟩
theorem Bd.flat_ok{B:Bd}{k:Nat}:B.flat.ok k↔B.ok k:=by
 constructor
 ·rintro⟨h1,h2,_⟩;simp only [Bd.flat,List.mem_append,not_or] at h1 h2;exact⟨h1,h2.1,fun x hx hk=>h2.2 (by rw[hk];exact List.mem_map_of_mem hx)⟩
 ·rintro⟨h1,h2,h3⟩;refine⟨h1,?_,fun x hx=>by cases hx⟩;simp only [Bd.flat,List.mem_append,not_or];refine⟨h2,fun h=>?_⟩;obtain⟨x,hx,he⟩:=List.mem_map.1 h;exact h3 x hx he.symm
def Xs(z tot:Nat):Nat:=bif Nat.beq z 1 then tot else tot+1
theorem Tg(z tot:Nat):tot<=Xs z tot:=by unfold Xs;cases Nat.beq z 1<;>simp
theorem Vv{z tot off j:Nat}(h:j<Xs z (tot-off))(ho:off<=tot):off+j<Xs z tot:=by revert h;unfold Xs;cases Nat.beq z 1<;>simp only [cond_true,cond_false]<;>intro h<;>omega
structure mS(P:Program)(B:Bd)(φ:dX)(w:World)(e:pW)(b:aR):Prop where
 esz:e.esz=b.esz
 cells:∃c lo hi,w.heap[e.block]?=some (.cells c b.elem (lo,hi))/\c.size=e.base+e.tot/\
  (∀j v,b.cs[j]?=some v->∃v',c[e.base+j]?=some v'/\bH φ v v')/\
  ((b.app=true\/b.wf<b.cs.length)->∀j,b.wf<=j->j<Xs b.esz e.tot->¬(lo<=e.base+j/\e.base+j<hi))
 len:b.cs.length<=e.tot
 own:(b.app=true\/b.wf<b.cs.length)->B.ok e.block
 whole:b.esz=0->b.cs≠ []->e.base=0
 real:¬zG e
inductive vP(φ:dX):List Value->List MapEntry->Prop where
 |nil:vP φ [] []
 |cons {e:MapEntry} {v:Value} {l:List Value} {es:List MapEntry} (h:bH φ v e.val) (hl:vP φ l es):vP φ (e.key::v::l) (e::es)
theorem vP.mono{φ ψ:dX}(h:φ.le ψ):∀{l:List Value} {es:List MapEntry},vP φ l es->vP ψ l es
 |_,_,.nil=> .nil
 |_,_,.cons hv hl=> .cons (hv.mono h) (vP.mono h hl)
structure MRel(P:Program)(B:Bd)(φ:dX)(w:World)(e:pW)(b:aR):Prop where
 isE:zG e
 isM:dS b=true
 lies:∃es clock,w.heap[e.block]?=some (.map es clock)/\vP φ b.cs es.toList/\(es.toList.map (·.key)).Nodup/\(∀x∈es.toList,∃l,keyOf P b.elem x.key=some l)
 own:B.ok e.block
 app:b.app=true
 wf:b.wf=0
def pX(P:Program)(B:Bd)(φ:dX)(w:World)(e:pW)(b:aR):Prop:=mS P B φ w e b\/MRel P B φ w e b
theorem pX.row{P:Program}{B:Bd}{φ:dX}{w:World}{e:pW}{b:aR}(h:pX P B φ w e b)(hb:dS b=false):mS P B φ w e b:=by
 rcases h with h|h
 ·exact h
 ·rw[h.isM] at hb;cases hb
theorem pX.ro{P:Program}{B:Bd}{φ:dX}{w:World}{e:pW}{b:aR}(h:pX P B φ w e b)(hb:b.app=false):mS P B φ w e b:=by
 rcases h with h|h
 ·exact h
 ·rw[h.app] at hb;cases hb
theorem pX.map{P:Program}{B:Bd}{φ:dX}{w:World}{e:pW}{b:aR}(h:pX P B φ w e b)(he:zG e):MRel P B φ w e b:=by
 rcases h with h|h
 ·exact absurd he h.real
 ·exact h
theorem pX.own{P:Program}{B:Bd}{φ:dX}{w:World}{e:pW}{b:aR}(h:pX P B φ w e b)(hw:b.app=true\/b.wf<b.cs.length):B.ok e.block:=by
 rcases h with h|h
 ·exact h.own hw
 ·exact h.own
def oO(e1:pW)(b1:aR)(e2:pW)(b2:aR):Prop:=
 e1.block≠e2.block\/(0<b1.wf/\b2.app=false/\b2.cs.length<=b2.wf/\e2.base+b2.cs.length<=e1.base+b1.wf)
theorem oO.congr{e1 e2:pW}{b1 b1' b2 b2':aR}(h:oO e1 b1 e2 b2)(h1:b1'.wf=b1.wf)(h2:b2'.app=b2.app)(h3:b2'.cs.length=b2.cs.length)(h4:b2'.wf=b2.wf):oO e1 b1' e2 b2':=by unfold oO at h⊢;rw[h1,h2,h3,h4];exact h
theorem oO.ne{e1 e2:pW}{b1 b2:aR}(h:oO e1 b1 e2 b2)(hw:b2.app=true\/b2.wf<b2.cs.length):e1.block≠e2.block:=by
 rcases h with h|⟨_,h1,h2,_⟩
 ·exact h
 ·rcases hw with hw|hw
  ·rw[h1] at hw;cases hw
  ·omega
theorem oO.ne0{e1 e2:pW}{b1 b2:aR}(h:oO e1 b1 e2 b2)(hw:b1.wf=0):e1.block≠e2.block:=by
 rcases h with h|⟨h1,_⟩
 ·exact h
 ·omega
structure sZ(φ:dX)(w:World)(x:Rnd):Prop where
 emb:∃e,φ x.r=some e/\e.block=x.l
 lies:w.heap[x.l]?=some (.loop x.R0)
 tmps:gO φ x.T x.n x.R0.tmps
theorem sZ.step{φ φ':dX}{w w':World}{x:Rnd}(h:sZ φ w x)(hle:φ.le φ')(hb:w'.heap[x.l]?=w.heap[x.l]?):sZ φ' w' x:=
 ⟨let ⟨e,he,h1⟩:=h.emb;⟨e,hle _ _ he,h1⟩,hb.trans h.lies,h.tmps.1,fun t v hv=>let ⟨v',h1,h2⟩:=h.tmps.2 t v hv;⟨v',h1,h2.mono hle⟩⟩
theorem sZ.lt{φ:dX}{w:World}{x:Rnd}(h:sZ φ w x):x.l<w.heap.size:=by
 rcases Nat.lt_or_ge x.l w.heap.size with h1|h1
 ·exact h1
 ·have:=h.lies;rw[Array.getElem?_eq_none h1] at this;cases this
structure hI(P:Program)(GL:List Nat)(B:Bd)(φ:dX)(M:aB)(w:World):Prop where
 blkA:∀id b,M.getA id=some b->∃e,φ id=some e/\pX P B φ w e b
 sepA:∀id1 id2 b1 b2 e1 e2,id1≠id2->M.getA id1=some b1->M.getA id2=some b2->(b1.app=true\/b1.wf<b1.cs.length)->
  φ id1=some e1->φ id2=some e2->oO e1 b1 e2 b2
 glob:∀g∈GL,g<M.next/\∃e,φ g=some e/\e.block=g/\e.base=0
 size:∀k,w.heap.size<=k->B.ok k
 idsA:∀id b,M.getA id=some b->id<M.next
 rnd:∀x∈B.rs,sZ φ w x
structure Fr(B:Bd)(φ:dX)(L:List Nat)(w w':World):Prop where
 os:w'.os=w.os
 tape:w'.tape=w.tape
 output:w'.output=w.output
 size:w.heap.size<=w'.heap.size
 block:∀k,k<w.heap.size->w'.heap[k]?=w.heap[k]?\/(B.ok k/\∃t∈L,∃e,φ t=some e/\e.block=k)
structure Post(P:Program)(GL:List Nat)(B:Bd)(φ φ':dX)(M M':aB)(L:List Nat)(w w':World):Prop where
 ext:∀id,(id<M.next\/M'.next<=id)->φ' id=φ id
 next:M.next<=M'.next
 rel:hI P GL B φ' M' w'
 fr:Fr B φ L w w'
 newb:∀id e,M.next<=id->id<M'.next->φ' id=some e->w.heap.size<=e.block\/∃t∈L,∃e0,φ t=some e0/\e0.block=e.block
 logb:∀t∈L,t<M'.next
theorem bN{M:aB}{id:Nat}{b:aR}:M.getA id=some b↔id<M.next/\bD M.hide id=false/\M.blks.get id=some b:=by
 unfold aB.getA;cases h1:Nat.blt id M.next<;>cases h2:bD M.hide id<;>simp;all_goals
  first
   |(intro h;have:Nat.blt id M.next=true:=Nat.ble_eq_true_of_le h;rw[h1] at this;cases this)
   |(intro _;exact xAd h1)
theorem gP{M:aB}{id:Nat}{b:aR}(h:M.get id=some b):M.getA id=some b:=by
 unfold aB.get Oi at h;split at h
 ·rename_i b0 h0;cases hm:dS b0<;>simp [hm] at h;subst h;exact h0
 ·cases h
theorem zC{M:aB}{id:Nat}{b:aR}(h:M.get id=some b):dS b=false:=by
 unfold aB.get Oi at h;split at h
 ·rename_i b0 h0;cases hm:dS b0<;>simp [hm] at h;subst h;exact hm
 ·cases h
theorem zD{M:aB}{id:Nat}{b:aR}(h:M.getA id=some b)(hb:dS b=false):M.get id=some b:=by unfold aB.get Oi;rw[h];simp [hb]
theorem cB{M:aB}{id:Nat}{b:aR}:M.get id=some b↔id<M.next/\bD M.hide id=false/\M.blks.get id=some b/\dS b=false:=
 ⟨fun h=>let ⟨h1,h2,h3⟩:=bN.1 (gP h);⟨h1,h2,h3,zC h⟩,fun⟨h1,h2,h3,h4⟩=>zD (bN.2 ⟨h1,h2,h3⟩) h4⟩
theorem Wq{b:aR}(hb:dS b=false)(ha:b.app=true){e:pW}(he:e.esz=b.esz):¬zG e:=fun hx=>by
 have h1:b.esz=nY:=he.symm.trans hx.2.2;have h2:dS b=true:=by unfold dS;rw[h1,ha];rfl
 rw[h2] at hb;cases hb
theorem zB{M:aB}{id:Nat}{b:aR}:M.getM id=some b↔M.getA id=some b/\dS b=true:=by
 unfold aB.getM mapO;constructor
 ·intro h;split at h
  ·rename_i b0 h0;cases hm:dS b0<;>simp [hm] at h;subst h;exact⟨h0,hm⟩
  ·cases h
 ·rintro⟨h1,h2⟩;rw[h1];simp [h2]
theorem hI.blk{P:Program}{GL:List Nat}{B:Bd}{φ:dX}{M:aB}{w:World}(h:hI P GL B φ M w)(id:Nat)(b:aR)(hb:M.get id=some b):∃e,φ id=some e/\mS P B φ w e b:=by obtain⟨e,h1,h2⟩:=h.blkA id b (gP hb);exact⟨e,h1,h2.row (zC hb)⟩
theorem hI.sep{P:Program}{GL:List Nat}{B:Bd}{φ:dX}{M:aB}{w:World}(h:hI P GL B φ M w)(a0 a1:Nat)(b1 b2:aR)(e1 e2:pW)(a2:a0≠a1)(h1:M.get a0=some b1)(h2:M.get a1=some b2)
  (hw:b1.app=true\/b1.wf<b1.cs.length) (k1:φ a0=some e1) (k2:φ a1=some e2):oO e1 b1 e2 b2:=h.sepA a0 a1 b1 b2 e1 e2 a2 (gP h1) (gP h2) hw k1 k2
theorem hI.ids{P:Program}{GL:List Nat}{B:Bd}{φ:dX}{M:aB}{w:World}(h:hI P GL B φ M w)(id:Nat)(b:aR)(hb:M.get id=some b):id<M.next:=h.idsA id b (gP hb)
theorem Fr.refl(B:Bd)(φ:dX)(L:List Nat)(w:World):Fr B φ L w w:=⟨rfl,rfl,rfl,Nat.le_refl _,fun _ _=> .inl rfl⟩
end Go.Am
end

noncomputable section
namespace Go.Am
open Go
variable{P:Program}{GL:List Nat}
structure mA(M M':aB)(L:List Nat):Prop where
 hide:M'.hide=M.hide
 next:M.next<=M'.next
 log:M'.log=L++M.log
 keep:∀id,id<M.next->id∉L->M'.blks.get id=M.blks.get id
 logb:∀t∈L,t<M'.next
theorem mA.refl(M:aB):mA M M []:=⟨rfl,Nat.le_refl _,rfl,fun _ _ _=>rfl,fun t ht=>by cases ht⟩
theorem mA.trans{M M1 M2:aB}{L1 L2:List Nat}(h:mA M M1 L1)(k:mA M1 M2 L2):mA M M2 (L2++L1):=
 ⟨k.hide.trans h.hide,Nat.le_trans h.next k.next,by rw[k.log,h.log,List.append_assoc],fun id hi hn=>by
  rw[k.keep id (xAf hi h.next) (fun x=>hn (by simp [x])),h.keep id hi (fun x=>hn (by simp [x]))],fun t ht=>by
  rcases List.mem_append.1 ht with ht|ht
  ·exact k.logb t ht
  ·exact xAf (h.logb t ht) k.next⟩
theorem mA.alloc(M:aB)(b:aR):mA M (M.alloc b) []:=
 ⟨rfl,Nat.le_succ _,rfl,fun id hi _=>by simp only [aB.alloc,Tr.get_set];rw[if_neg (by omega)],fun t ht=>by cases ht⟩
theorem mA.put(M:aB){i:Nat}(hi:i<M.next)(b:Option aR):mA M (M.put i b) [i]:=
 ⟨rfl,Nat.le_refl _,rfl,fun id _ hn=>by
  simp only [aB.put,Tr.get_set];rw[if_neg (by simpa using hn)],fun t ht=>by simp at ht;subst ht;exact hi⟩
def bW(callF:dD):Prop:=∀f args M v M',callF f args M=some (v,M')->∃L,mA M M' L
structure eH(k:Nat)(M M':aB):Prop where
 quiet:k=0->M'=M
 ex:∃L,mA M M' L/\(k<=1->L=[])
theorem eH.one{M:aB}:eH 1 M M:=⟨fun h=>(by cases h),[],mA.refl M,fun _=>rfl⟩
theorem eH.zero{M:aB}:eH 0 M M:=⟨fun _=>rfl,[],mA.refl M,fun _=>rfl⟩
theorem eH.alloc{M:aB}{b:aR}:eH 1 M (M.alloc b):=⟨fun h=>(by cases h),[],mA.alloc M b,fun _=>rfl⟩
theorem eH.put{M:aB}{i:Nat}{b:Option aR}(hi:i<M.next):eH 2 M (M.put i b):=⟨fun h=>(by cases h),[i],mA.put M hi b,fun h=>by omega⟩
theorem eH.putAlloc{M:aB}{i:Nat}{x:Option aR}{b:aR}(hi:i<M.next):eH 2 M ((M.put i x).alloc b):=
 ⟨fun h=>(by cases h),[]++ [i],(mA.put M hi x).trans (mA.alloc _ b),fun h=>by omega⟩
theorem eH.made{M M':aB}{v:Value}{z:Nat}{elem:TypeId}{cs:List Value}{k:Nat}{r:AR}(h:Go.Am.made v (nT z elem cs M)=some (k,r,M')):eH k M M':=by simp [Go.Am.made] at h;obtain⟨rfl,_,rfl⟩:=h;exact eH.alloc
theorem wA{m:Nat}:∀{l:List Nat} {t:Nat},t∈l->t<m->t∈kG m l
 | [],_,h,_=>by cases h
 |x::l,t,h,hlt=>by
  unfold kG;rcases List.mem_cons.1 h with rfl|h
  ·have:Nat.blt t m=true:=Nat.ble_eq_true_of_le hlt;simp [this]
  ·cases hb:Nat.blt x m<;>simp [wA h hlt]
theorem yQ{m t:Nat}:∀{l:List Nat},t∈kG m l->t<m
 | [],h=>by cases h
 |x::l,h=>by
  unfold kG at h;cases hb:Nat.blt x m<;>simp only [hb,cond_true,cond_false] at h
  ·exact yQ h
  ·rcases List.mem_cons.1 h with rfl|h
   ·exact xAd hb
   ·exact yQ h
theorem yL{a0:dD}(hC:bW a0){f:FuncId}{args:List Value}{M M':aB}{k:Nat}{r:AR}(h:lB a0 f args M=some (k,r,M')):eH k M M':=by
 unfold lB at h;split at h
 ·rename_i v M1 hcall;obtain⟨L,h1,h2,h3,h4,h5⟩:=hC _ _ _ _ _ hcall;simp only [List.append_nil] at h3;split at h
  ·rename_i hnil;simp at h;obtain⟨rfl,_,rfl⟩:=h;refine⟨fun h=>(by cases h),[],⟨rfl,h2,rfl,fun id hi _=>h4 id hi fun hm=>?_,fun t ht=>by cases ht⟩,fun _=>rfl⟩;have:=wA (h3▸hm) hi;rw[hnil] at this;cases this
  ·simp at h;obtain⟨rfl,_,rfl⟩:=h;exact⟨fun h=>(by cases h),_,⟨rfl,h2,rfl,fun id hi hn=>h4 id hi fun hm=>hn (wA (h3▸hm) hi),fun t ht=>xAf (yQ ht) h2⟩,fun h=>by omega⟩
 ·simp at h
theorem mC{a0:dD}(hC:bW a0){o:Oper}{T:Tr Value}{M M':aB}{k:Nat}{r:AR}(h:jY P GL a0 o T M=some (k,r,M')):eH k M M':=by
 unfold jY at h;split at h
 ·simp at h;obtain⟨rfl,_,rfl⟩:=h;exact eH.zero
 ·replace h:fM P GL a0 o T M=some (k,r,M'):=by
   split at h
   ·cases h
   ·exact h
  unfold fM at h;split at h
  ·unfold cQ at h;split at h<;>try (simp at h;done)
   split at h<;>try (simp at h;done)
   rename_i i z _ _ _ v _;cases hb:(flat v&&v.cells.toList.all isCell)<;>simp only [hb,cond_true,cond_false] at h
   ·simp at h
   ·exact eH.made h
  ·split at h<;>try (simp at h;done)
   rename_i v _;unfold fE at h;split at h<;>try (simp at h;done)
   cases hb:(v.cells.toList.all isCell)<;>simp only [hb,cond_true,cond_false] at h
   ·simp at h
   ·exact eH.made h
  ·split at h<;>try (simp at h;done)
   unfold bE at h;split at h<;>try (simp at h;done)
   split at h<;>try (simp at h;done)
   split at h<;>try (simp at h;done)
   rename_i e _ _ z _;generalize (flat z&&z.cells.toList.all isCell&&Nat.beq z.cells.toList.length e.size&& !Nat.beq e.size 0&&Nat.ble _ (2^24))=b at h;cases b<;>simp only [cond_true,cond_false] at h
   ·simp at h
   ·split at h<;>try (simp at h;done)
    rename_i cs _;cases hb:cs.all isCell<;>simp only [hb,cond_true,cond_false] at h
    ·simp at h
    ·exact eH.made h
  ·split at h<;>try (simp at h;done)
   split at h<;>try (simp at h;done)
   simp at h;obtain⟨rfl,_,rfl⟩:=h;exact eH.one
  ·split at h<;>try (simp at h;done)
   split at h<;>try (simp at h;done)
   rename_i M1 hs;simp at h;obtain⟨rfl,_,rfl⟩:=h;unfold eB at hs;split at hs<;>try (simp at hs;done)
   rename_i b i hgb _;generalize (Nat.beq _ i.size&&_&&_&&_)=q at hs;cases q<;>simp only [cond_true,cond_false] at hs
   ·simp at hs
   ·simp at hs;subst hs;exact eH.put (cB.1 hgb).1
  ·split at h<;>try (simp at h;done)
   unfold qX at h;split at h<;>try (simp at h;done)
   ·split at h<;>try (simp at h;done)
    rename_i i _ _;generalize (Nat.beq i.size 1&&_)=q at h;cases q<;>simp only [cond_true,cond_false] at h
    ·simp at h
    ·exact eH.made h
   ·split at h<;>try (simp at h;done)
    split at h<;>try (simp at h;done)
    split at h<;>try (simp at h;done)
    simp at h;obtain⟨rfl,_,rfl⟩:=h;exact eH.one
   ·split at h<;>try (simp at h;done)
    generalize (_||_)=q at h;cases q<;>simp only [cond_true,cond_false] at h
    ·simp at h;obtain⟨rfl,_,rfl⟩:=h;exact eH.one
    ·simp at h
   ·split at h<;>try (simp at h;done)
    generalize (_||_||_||_||_)=q at h;cases q<;>simp only [cond_true,cond_false] at h
    ·simp at h;obtain⟨rfl,_,rfl⟩:=h;exact eH.one
    ·simp at h
  ·split at h<;>try (simp at h;done)
   unfold bR at h;split at h<;>try (simp at h;done)
   split at h<;>try (simp at h;done)
   split at h<;>try (simp at h;done)
   rename_i e _ _ z _;generalize (flat z&&_&&_&&_&&_&&_&&_&&_)=b at h;cases b<;>simp only [cond_true,cond_false] at h
   ·simp at h
   ·exact eH.made h
  ·split at h<;>try (simp at h;done)
   split at h<;>try (simp at h;done)
   simp at h;obtain⟨rfl,_,rfl⟩:=h;exact eH.one
  ·split at h
   ·split at h<;>try (simp at h;done)
    split at h
    ·rename_i g _ _ _;cases hb:fI P g<;>simp only [hb,cond_true,cond_false] at h
     ·unfold Mq at h;split at h<;>try (simp at h;done)
      generalize (_&&_)=q at h;cases q<;>simp only [cond_true,cond_false] at h
      ·simp at h
      ·simp at h;obtain⟨rfl,_,rfl⟩:=h;exact eH.one
     ·exact yL hC h
    ·unfold Hm at h;split at h<;>try (simp at h;done)
     exact yL hC h
   ·split at h<;>try (simp at h;done)
    split at h<;>try (simp at h;done)
    rename_i g _;cases hb:fI P g<;>simp only [hb,cond_true,cond_false] at h
    ·simp at h
    ·exact yL hC h
   ·split at h<;>try (simp at h;done)
    unfold dM at h;split at h<;>try (simp at h;done)
    split at h<;>try (simp at h;done)
    split at h<;>try (simp at h;done)
    split at h<;>try (simp at h;done)
    ·generalize (!_||_||_)=q at h;cases q<;>simp only [cond_true,cond_false] at h
     ·rename_i n _ _ _ _ _ _ _ _;generalize Nat.beq _ 0=q at h;cases q<;>simp only [cond_true,cond_false] at h
      ·exact eH.made h
      ·simp at h;obtain⟨rfl,_,rfl⟩:=h;exact eH.one
     ·simp at h
    ·split at h<;>try (simp at h;done)
     split at h<;>try (simp at h;done)
     generalize (!_||_||_||_||_||_)=q at h;cases q<;>simp only [cond_true,cond_false] at h
     ·generalize Nat.beq _ 0=q at h;cases q<;>simp only [cond_true,cond_false] at h
      ·generalize Nat.beq _ _=q at h;cases q<;>simp only [Bool.not_false,Bool.not_true,cond_true,cond_false] at h
       ·generalize Nat.ble _ _=q at h;cases q<;>simp only [cond_true,cond_false] at h
        ·generalize (_&&_)=q at h;cases q<;>simp only [cond_true,cond_false] at h
         ·simp at h
         ·simp at h;obtain⟨rfl,_,rfl⟩:=h;exact eH.put (cB.1 ‹M.get _=some _›).1
        ·exact eH.made h
       ·generalize (aR.app _&&_)=q at h;cases q<;>simp only [cond_true,cond_false] at h
        ·simp at h
        ·generalize (Ah _ _&&_)=q at h;cases q<;>simp only [cond_true,cond_false] at h
         ·generalize (_||_)=q at h;cases q<;>simp only [cond_true,cond_false] at h
          ·simp at h
          ·simp at h;obtain⟨rfl,_,rfl⟩:=h;exact eH.putAlloc (cB.1 ‹M.get _=some _›).1
         ·simp at h;obtain⟨rfl,_,rfl⟩:=h;exact eH.putAlloc (cB.1 ‹M.get _=some _›).1
      ·simp at h;obtain⟨rfl,_,rfl⟩:=h;exact eH.one
     ·simp at h
   ·split at h<;>try (simp at h;done)
    unfold Jf at h;split at h<;>try (simp at h;done)
    split at h<;>try (simp at h;done)
    split at h<;>try (simp at h;done)
    ·simp at h;obtain⟨rfl,_,rfl⟩:=h;exact eH.one
    ·split at h<;>try (simp at h;done)
     generalize (!_||_||_||_)=q at h;cases q<;>simp only [cond_true,cond_false] at h
     ·simp at h;obtain⟨rfl,_,rfl⟩:=h;exact eH.put (cB.1 ‹M.get _=some _›).1
     ·simp at h
   ·split at h<;>try (simp at h;done)
    unfold Hg at h;split at h<;>try (simp at h;done)
    split at h<;>try (simp at h;done)
    split at h<;>try (simp at h;done)
    generalize (_&&_&&_&&_&&_&&_)=q at h;cases q<;>simp only [cond_true,cond_false] at h
    ·simp at h
    ·simp at h;obtain⟨rfl,_,rfl⟩:=h;exact eH.put (cB.1 ‹M.get _=some _›).1
   ·split at h<;>try (simp at h;done)
    unfold Hl at h;split at h<;>try (simp at h;done)
    split at h<;>try (simp at h;done)
    split at h<;>try (simp at h;done)
    split at h<;>try (simp at h;done)
    generalize (_&&_&&_&&_&&_)=q at h;cases q<;>simp only [cond_true,cond_false] at h
    ·simp at h
    ·simp at h;obtain⟨rfl,_,rfl⟩:=h;exact eH.put (cB.1 ‹M.get _=some _›).1
   ·simp at h
  ·split at h<;>try (simp at h;done)
   unfold xE at h;split at h<;>try (simp at h;done)
   generalize Td _=q at h;cases q<;>simp only [cond_true,cond_false] at h
   ·simp at h
   ·simp at h;obtain⟨rfl,_,rfl⟩:=h;exact eH.alloc
  ·split at h<;>try (simp at h;done)
   unfold Bl at h;split at h<;>try (simp at h;done)
   split at h<;>try (simp at h;done)
   generalize (_&&_)=q at h;cases q<;>simp only [cond_true,cond_false] at h
   ·simp at h
   ·split at h;all_goals
     simp at h
     obtain⟨rfl,_,rfl⟩:=h
     exact eH.one
  ·split at h<;>try (simp at h;done)
   unfold rX at h;split at h<;>try (simp at h;done)
   split at h<;>try (simp at h;done)
   rename_i hb;generalize (_&&_)=q at h;cases q<;>simp only [cond_true,cond_false] at h
   ·simp at h
   ·simp at h;obtain⟨rfl,_,rfl⟩:=h;exact eH.put (bN.1 (zB.1 hb).1).1
  ·simp at h
end Go.Am
end
