/-
  Package hier: each of its laws for every argument; no conditions. The last text states which.
-/
import Derived.Test.YtdaglldahidmbaaGreatGAmOps4
import Derived.Test.YtdaglldahidmbaaGreatGAmRel
set_option linter.unusedVariables false
set_option linter.unusedSimpArgs false
namespace Go.Am
open Go
variable{P:Program}{GL:List Nat}{B:Bd}{φ φ':dX}{w:World}{a:Act}{ops:Array Oper}{ro:Option Nat}
theorem gO.mono{T:Tr Value}{n:Nat}{tmps:Array Value}(hle:φ.le φ')(h:gO φ T n tmps):gO φ' T n tmps:=
 ⟨h.1,fun t v hv=>let ⟨v',h1,h2⟩:=h.2 t v hv;⟨v',h1,h2.mono hle⟩⟩
theorem gO.set{T:Tr Value}{n:Nat}{tmps:Array Value}(h:gO φ T n tmps){d:Nat}(hd:d<n){v v':Value}(hv:bH φ v v'):gO φ (T.set d (some v)) n (tmps.setIfInBounds d v'):=by
 refine⟨by simp [h.1],fun t u hu=>?_⟩;rw[Tr.get_set] at hu;by_cases ht:t=d
 ·subst ht;simp at hu;subst hu;exact⟨v',by simp [h.1,hd],hv⟩
 ·rw[if_neg ht] at hu;obtain⟨u',h1,h2⟩:=h.2 t u hu;exact⟨u',by rw[Array.getElem?_setIfInBounds_ne (fun x=>ht x.symm)];exact h1,h2⟩
theorem Cd{s s':St}{o:Oper}{r:AR}{v':Value}(a0:φ.le φ')(hT:gO φ s.T s.n a.tmps)(hr:Vb φ' r v')(h:pY o r s=some s'):
  gO φ' s'.T s'.n (a.put o.dst v').tmps/\s'.M=s.M/\s'.n=s.n/\(a.put o.dst v').defers=a.defers:=by
 unfold pY at h
 split at h
 ·rename_i hd;simp at h;subst h;simp only [hd,Act.put];exact⟨hT.mono a0,trivial,trivial,trivial⟩
 ·rename_i d v hd;cases hb:Nat.blt d s.n<;>simp only [hb,cond_true,cond_false] at h
  ·simp at h
  ·simp at h;subst h;have a1:d<s.n:=xAd hb;simp only [hd,Act.put];exact⟨(hT.mono a0).set a1 hr,trivial,trivial,trivial⟩
 ·rename_i d hd;cases hb:Nat.blt d s.n<;>simp only [hb,cond_true,cond_false] at h
  ·simp at h
  ·simp at h;subst h;have a1:d<s.n:=xAd hb;have a2:v'=undef:=hr;simp only [hd,Act.put];exact⟨(hT.mono a0).set a1 (by rw[a2];exact bH.refl_flat φ' undef rfl),trivial,trivial,trivial⟩
theorem bH.to_bool{v:Value}{b:Bool}(h:bH φ v (.bool b)):v= .bool b:=by cases h;rfl
theorem iG{T:Tr Value}{n:Nat}(hT:gO φ T n a.tmps){o:Oper}{b:Bool}(h:fB ops T o=some b):Region.wanted o (yielded ops a.tmps)=b:=by
 unfold fB at h;unfold Region.wanted;split at h
 ·rename_i hg;simp at h;rw[hg];simp [h]
 ·rename_i j want hg;rw[hg];simp only;split at h
  ·rename_i d hd;have hy:yielded ops a.tmps j=match a.tmps[d]? with|some (.bool b)=>some b|_=>none:=by
    unfold yielded;rw[hd];rfl
   rw[hy];split at h
   ·rename_i b' hb';obtain⟨v',h1,h2⟩:=hT.2 d _ hb';rw[h1,h2.bool_inv];simpa using h
   ·rename_i v hnb hv;obtain⟨v',h1,h2⟩:=hT.2 d _ hv;simp at h;subst h;rw[h1];cases v' with
    |bool b2=>exact absurd h2.to_bool (hnb b2)
    |_=>rfl
   ·simp at h
  ·simp at h
theorem Lj(i n:Nat):List.range' i (n+1)=i::List.range' (i+1) n:=rfl
theorem fN{s s':St}{o:Oper}{r:AR}(h:pY o r s=some s'):s'.M=s.M:=by
 unfold pY at h;split at h
 ·simp at h;subst h;rfl
 ·rename_i d v _;cases hb:Nat.blt d s.n<;>simp only [hb,cond_true,cond_false] at h
  ·cases h
  ·cases h;rfl
 ·rename_i d _;cases hb:Nat.blt d s.n<;>simp only [hb,cond_true,cond_false] at h
  ·cases h
  ·cases h;rfl
theorem xI{a0:dD}(hC:bW a0){ops:Array Oper}:∀(l:List Oper) (s s':St),xH P GL a0 ops l s=some s'->∃L,mA s.M s'.M L
 | [],s,s',h=>by simp [xH] at h;subst h;exact⟨_,mA.refl _⟩
 |o::l,s,s',h=>by
  simp only [xH] at h;split at h
  ·split at h
   ·rename_i k r M' hop;split at h
    ·rename_i s1 hput;obtain⟨L1,h1,_⟩:=(mC hC hop).ex;obtain⟨L2,h2⟩:=xI hC l s1 s' h;rw[fN hput] at h2;exact⟨_,h1.trans h2⟩
    ·simp at h
   ·simp at h
  ·split at h
   ·rename_i s1 hput;obtain⟨L2,h2⟩:=xI hC l s1 s' h;rw[fN hput] at h2;exact⟨_,h2⟩
   ·simp at h
  ·simp at h
theorem Hk{a1:dD}(hN:eJ P)(hC:kC P GL B a1)(hA:bW a1){Q:Exit->Act->World->Prop}:∀(l:List Oper) (i:Nat) (s s':St) (φ:dX) (a:Act) (w:World),(∀j,l[j]?=ops[i+j]?)->
  xH P GL a1 ops l s=some s'->hI P GL B φ s.M w->jP φ s.M s'.M->gO φ s.T s.n a.tmps->
  (∀L φ' a' w',s'.M.log=L++s.M.log->Post P GL B φ φ' s.M s'.M L w w'->gO φ' s'.T s'.n a'.tmps->a'.defers=a.defers->Q .normal a' w')->
  wpOpsIn (RO ro) 0 P ops Q (List.range' i l.length) a w
 | [],i,s,s',φ,a,w,hl,h,hR,hG,hT,hk=>by
  simp [xH] at h;subst h;exact hk [] φ a w rfl (Post.refl hR) hT rfl
 |o::l,i,s,s',φ,a,w,hl,h,hR,hG,hT,hk=>by
  have h0:ops[i]?=some o:=by simpa using(hl 0).symm
  have b0:∀j,l[j]?=ops[i+1+j]?:=fun j=>by
   have:=hl (j+1);rw[show i+1+j=i+(j+1) by omega];simpa using this
  simp only [List.length_cons,Lj];rw[wpOpsIn_cons];unfold wpOpIn;simp only [h0];simp only [xH] at h;split at h
  ·rename_i hw;rw[iG hT hw];simp only [if_true];split at h
   ·rename_i k r M' hop;split at h
    ·rename_i s1 hput;obtain⟨L2,a3⟩:=xI hA l s1 s' h;rw[fN hput] at a3;have a9:jP φ s.M M':=hG.sub a3.next;refine Cc hN hC hR a9 hT hop fun L1 φ1 v' w1 a4 a6 b2=>?_
     have b1:=a6.le a9;obtain⟨t1,t2,t3,t4⟩:=Cd (a:=a) (s:={s with M:=M'}) b1 hT b2 hput;have hM:s1.M=M':=t2;refine Hk hN hC hA l (i+1) s1 s' φ1 _ w1 b0 h (by rw[hM];exact a6.rel) (by rw[hM];exact a6.good hG) t1 fun L2 φ2 a2 w2 a0 a5 a7 a8=>?_
     rw[hM] at a5 a0;exact hk (L2++L1) φ2 a2 w2 (by rw[a0,a4,List.append_assoc]) (a6.trans a5) a7 (a8.trans t4)
    ·simp at h
   ·simp at h
  ·rename_i hw;rw[iG hT hw];simp only [Bool.false_eq_true,if_false];refine⟨fun f _=>Fq _ f,?_⟩;split at h
   ·rename_i s1 hput;obtain⟨t1,t2,t3,t4⟩:=Cd (a:=a) (φ':=φ) (r:= .skip) (v':=undef) (dX.le_refl φ) hT rfl hput;refine Hk hN hC hA l (i+1) s1 s' φ _ w b0 h (by rw[t2];exact hR) (by rw[t2];exact hG) t1 fun L2 φ2 a2 w2 a0 a5 a7 a8=>?_
    rw[t2] at a5 a0;exact hk L2 φ2 a2 w2 a0 a5 a7 (a8.trans t4)
   ·simp at h
  ·simp at h
end Go.Am

namespace Go.Am
open Go
variable{P:Program}{GL:List Nat}{T T':Tr Value}
theorem lW:∀{l:List Operand},(∀x∈l,ev GL T x=ev GL T' x)->pS GL T l=pS GL T' l
 | [],_=>rfl
 |x::l,h=>by
  simp only [pS];rw[h x (by simp),lW (l:=l) fun y hy=>h y (by simp [hy])]
theorem qQ:∀{l:List (Nat×Operand)},(∀x∈l.map (·.2),ev GL T x=ev GL T' x)->nE GL T l=nE GL T' l
 | [],_=>rfl
 |(i,x)::l,h=>by
  simp only [nE];rw[h x (by simp),qQ (l:=l) fun y hy=>h y (by simp at hy⊢;exact .inr hy)]
theorem Jj{o:Oper}(hs:∀cs b,o.op≠ .select cs b)(h:∀x∈o.op.operands,ev GL T x=ev GL T' x):jS P GL o T=jS P GL o T':=by
 unfold jS
 rw[lW (T':=T') (l:=o.op.operands.toList) fun x hx=>h x (by simpa using hx),
  execOp_congr (ρ:=fun x=>(ev GL T x).getD undef) (ρ':=fun x=>(ev GL T' x).getD undef) o hs fun x hx=>by simp only [h x hx]]
set_option maxHeartbeats 1000000 in
theorem vU{o:Oper}(h:∀x∈o.op.operands,ev GL T x=ev GL T' x):fL P GL o T=fL P GL o T':=by
 have hf:(∀cs b,o.op≠ .select cs b)->jS P GL o T=jS P GL o T':=fun hs=>Jj hs h
 obtain⟨dst,op,type,pos,after,guard⟩:=o;cases op<;>simp only [Op.operands] at h<;>simp only [fL];case move x=>rw[h x (by simp)]
 case assign x=>rw[h x (by simp)]
 case pick c a b=>rw[h c (by simp)];split<;>first|rfl|(rename_i t _;cases t<;>simp only [cond_true,cond_false]<;>rw[h _ (by simp)])
 case build t parts=>rw[qQ (T':=T') fun x hx=>h x (by simpa using hx)]
 case nilCheck x=>rw[h x (by simp)]
 case binOp op t x y yt=>unfold kO;rw[hf (by simp),h x (by simp),h y (by simp)]
 case makeInterface t x=>rw[h x (by simp)]
 case makeFunc fn first captured=>rw[lW (T':=T') (l:=first.toList) fun x hx=>h x (by simp at hx⊢;exact .inl hx),lW (T':=T') (l:=captured.toList) fun x hx=>h x (by simp at hx⊢;exact .inr hx)]
 case fieldAddr s x f=>rw[h x (by simp)]
 case field s x f=>rw[h x (by simp)]
 case indexAddr t x i=>rw[h x (by simp),h i (by simp)]
 case index t x i=>unfold kO;rw[hf (by simp),h x (by simp),h i (by simp)]
 case typeAssert x t a ok=>rw[h x (by simp)]
 case extract x i=>rw[h x (by simp)]
 case call c=>
  split
  ·rename_i hc;unfold kO;rw[hf (by simp),lW (T':=T') (l:=c.args.toList) fun x hx=>h x (by simp [Call.operands] at hx⊢;exact .inr hx)]
  ·rename_i f hc;rw[h f (by simp [Call.operands,hc]),hf (by simp)]
  ·rfl
  ·rfl
  ·rfl
  ·rename_i hc;unfold kO;rw[hf (by simp),lW (T':=T') (l:=c.args.toList) fun x hx=>h x (by simp [Call.operands] at hx⊢;exact .inr hx)]
  ·exact hf (by simp)
 case slice t x lo hi mx=>rw[h x (by simp),hf (by simp)]
 case convert s d x=>rw[h x (by simp),hf (by simp)]
 all_goals first|rfl|exact hf (by simp)
set_option maxHeartbeats 1000000 in
theorem Mr{a0:dD}{o:Oper}{M:aB}(h:∀x∈o.op.operands,ev GL T x=ev GL T' x):fM P GL a0 o T M=fM P GL a0 o T' M:=by
 obtain⟨dst,op,type,pos,after,guard⟩:=o;cases op<;>simp only [Op.operands] at h<;>simp only [fM];case box e x=>rw[h x (by simp)]
 case buildSlice t n parts=>rw[qQ (T':=T') fun x hx=>h x (by simpa using hx)]
 case load t x=>rw[h x (by simp)]
 case store t x y=>rw[h x (by simp),h y (by simp)]
 case convert s d x=>rw[h x (by simp)]
 case makeSlice t l c=>rw[h l (by simp),h c (by simp)]
 case makeMap t r=>
  cases r with
  |none=>rfl
  |some y=>simp only [Option.toList,pS,Option.bind];rw[h y (by simp)]
 case lookup t x k ok=>rw[h x (by simp),h k (by simp)]
 case mapUpdate t x k v=>rw[h x (by simp),h k (by simp),h v (by simp)]
 case slice t x lo hi mx=>
  have hb:∀o:Option Operand,(∀y,o=some y->ev GL T y=ev GL T' y)->o.bind (ev GL T)=o.bind (ev GL T'):=fun o ho=>by
   cases o with
   |none=>rfl
   |some y=>exact ho y rfl
  rw[h x (by simp),lW (T':=T') (l:=lo.toList++hi.toList++mx.toList) fun y hy=>h y (by simp at hy⊢;rcases hy with hy|hy|hy<;>simp [hy]),
   hb lo fun y hy=>h y (by simp [hy]),hb hi fun y hy=>h y (by simp [hy]),hb mx fun y hy=>h y (by simp [hy])]
 case call c=>
  obtain⟨callee,args,argTypes⟩:=c
  simp only [Call.operands] at h
  have ha:pS GL T args.toList=pS GL T' args.toList:=lW fun x hx=>h x (by simp at hx⊢;exact .inr hx)
  simp only [ha]
  cases callee with
  |value f=>simp only;rw[h f (by simp)]
  |invoke r m=>simp only;rw[h r (by simp)]
  |builtin b=>cases b<;>rfl
theorem uI{callF:dD}{o:Oper}{M:aB}(h:∀x∈o.op.operands,ev GL T x=ev GL T' x):jY P GL callF o T M=jY P GL callF o T' M:=by unfold jY;rw[vU h,Mr h]
theorem Ex{ops:Array Oper}{o:Oper}(h:∀g d,o.guard=some g->(ops[g.1]?).bind (·.dst)=some d->T.get d=T'.get d):fB ops T o=fB ops T' o:=by
 unfold fB;cases hg:o.guard with
 |none=>rfl
 |some g=>
  obtain⟨j,want⟩:=g
  simp only
  cases hd:(ops[j]?).bind (·.dst) with
  |none=>rfl
  |some d=>simp only;rw[h _ d hg hd]
end Go.Am
