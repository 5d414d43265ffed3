/-
  Package hier: each of its laws for every argument; no conditions. The last text states which.
-/
import Derived.Test.YtdaglldahidmbaaGreatGAmTn
import Derived.Test.YtdaglldahidmbaaGreatGAmMk
set_option linter.unusedVariables false
set_option linter.unusedSimpArgs false
noncomputable section
namespace Go.Am
open Go
set_option linter.unusedVariables false
structure RI(n:Nat)(l:List Int)(i:Nat)(s:Ba):Prop where
 gone: ∀u:Nat,u<n->(cH s.gone u=true↔ ∃j,j<i/\l[j]?=some ((u:Nat):Int))
 rk: ∀(u:Nat) (r:Int),s.rank[u]?=some r->(r= -1/\ ∀j,j<i->l[j]?≠some ((u:Nat):Int))\/(∃j:Nat,j<i/\l[j]?=some ((u:Nat):Int)/\r=((j:Nat):Int))
 up: ∀(v:Nat) (r:List Int),s.up[v]?=some r-> ∀a∈r,0<=a/\ ∃x j,s.b.arcs[a.toNat]?=some x/\j<i/\l[j]?=some ((v:Nat):Int)/\x.f=((v:Nat):Int)/\(0<=x.t/\x.t<n)/\(x.t=((v:Nat):Int)\/ ∀k,k<=j->l[k]?≠some x.t)
 down: ∀(v:Nat) (r:List Int),s.down[v]?=some r-> ∀a∈r,0<=a/\ ∃x j,s.b.arcs[a.toNat]?=some x/\j<i/\l[j]?=some ((v:Nat):Int)/\x.t=((v:Nat):Int)/\(0<=x.f/\x.f<n)/\ ∀k,k<=j->l[k]?≠some x.f
theorem RI.zero{n:Nat}{es:List E4}{l:List Int}:RI n l 0 (cV n es l 0):=by
 refine⟨fun u hu=> ?_,fun u r hr=> .inl ⟨?_,fun j hj=>by omega⟩,fun v r hr a ha=> ?_,fun v r hr a ha=> ?_⟩
 ·have:cH (cV n es l 0).gone u=false:=by
   show cH (List.replicate n false) u=false
   unfold cH
   rw[List.getElem?_replicate,if_pos hu];rfl
  rw[this]
  exact⟨fun h=>(by cases h),fun⟨j,hj,_⟩=>(by omega)⟩
 ·have a0:(List.replicate n (-1:Int))[u]?=some r:=hr
  rw[List.getElem?_replicate] at a0
  split at a0
  ·exact(Option.some.inj a0).symm
  ·cases a0
 ·have a0:(List.replicate n ([]:List Int))[v]?=some r:=hr
  rw[List.getElem?_replicate] at a0
  split at a0
  ·rw[<-Option.some.inj a0] at ha;cases ha
  ·cases a0
 ·have a0:(List.replicate n ([]:List Int))[v]?=some r:=hr
  rw[List.getElem?_replicate] at a0
  split at a0
  ·rw[<-Option.some.inj a0] at ha;cases ha
  ·cases a0
theorem oW{g:List Bool}{v u:Nat}(hv:v<g.length):cH (g.set v true) u=true↔u=v\/cH g u=true:=by
 unfold cH
 rw[List.getElem?_set]
 by_cases h:v=u
 ·subst h;simp [hv]
 ·simp [h,Ne.symm h]
theorem pG{g:List Bool}{u:Nat}:cH g u=false↔ ¬cH g u=true:=by simp
theorem RI.step{n i v:Nat}{C:Int}{k:Nat}{l:List Int}{s:Ba}(h:RI n l i s)(hG:HG n C k s)(hC:0<=C)(hv:v<n)(ht:l[i]?=some ((v:Nat):Int)):RI n l (i+1) (nV n {s with rank:=s.rank.set v i} v):=by
 have hm: ∀(g:List Bool) (w:wV),∀i∈cQ n s.b.cur g w v,i.toNat<s.b.arcs.length:=fun g w i hi=>by
  obtain⟨_,a,_,_,e,_⟩:=hG.hi.row hv hi
  exact(xAg.1 e).1
 have a1:=((Bj.zero hC hG.hi).all (v:=v) hG.hi (hm (s.gone.set v true) .inn) (hm s.gone .out)).old
 have a2:v<s.gone.length:=by rw[hG.gone];exact hv
 refine⟨fun u hu=> ?_,fun u r hr=> ?_,fun v' r hr a ha=> ?_,fun v' r hr a ha=> ?_⟩
 ·show cH (s.gone.set v true) u=true↔_
  rw[oW a2,h.gone u hu]
  constructor
  ·rintro(rfl|⟨j,h1,h2⟩)
   ·exact⟨i,by omega,ht⟩
   ·exact⟨j,by omega,h2⟩
  ·rintro⟨j,h1,h2⟩
   by_cases e:j=i
   ·subst e
    rw[ht] at h2
    have:=Option.some.inj h2
    exact .inl (by omega)
   ·exact .inr ⟨j,by omega,h2⟩
 ·have a0:(s.rank.set v ((i:Nat):Int))[u]?=some r:=hr
  rw[List.getElem?_set] at a0
  by_cases e:v=u
  ·subst e
   rw[if_pos rfl] at a0
   split at a0
   ·exact .inr ⟨i,by omega,ht,(Option.some.inj a0).symm⟩
   ·cases a0
  ·rw[if_neg e] at a0
   rcases h.rk u r a0 with⟨h1,h2⟩|⟨j,h1,h2,h3⟩
   ·refine .inl ⟨h1,fun j hj hh=> ?_⟩
    by_cases e2:j=i
    ·subst e2
     rw[ht] at hh
     have:=Option.some.inj hh
     exact e (by omega)
    ·exact h2 j (by omega) hh
   ·exact .inr ⟨j,by omega,h2,h3⟩
 ·have a0:(s.up.set v (cQ n s.b.cur s.gone .out v))[v']?=some r:=hr
  rw[List.getElem?_set] at a0
  by_cases e:v=v'
  ·subst e
   rw[if_pos rfl] at a0
   split at a0
   ·have:=Option.some.inj a0
    subst this
    obtain⟨h0,x,u,m,e1,e2,e3,e4,e5,e6,e7⟩:=hG.hi.row hv ha
    refine⟨h0,x,i,a1 _ _ e1,by omega,ht,e6,by omega,?_⟩
    by_cases eu:u=v
    ·exact .inl (by omega)
    ·refine .inr fun k hk hh=> ?_
     rw[e7] at hh
     by_cases ek:k=i
     ·subst ek
      rw[ht] at hh
      have:=Option.some.inj hh
      omega
     ·exact pG.1 e3 ((h.gone u e2).2 ⟨k,by omega,hh⟩)
   ·cases a0
  ·rw[if_neg e] at a0
   obtain⟨h0,x,j,q1,q2,q3⟩:=h.up v' r a0 a ha
   exact⟨h0,x,j,a1 _ _ q1,by omega,q3⟩
 ·have a0:(s.down.set v (cQ n s.b.cur (s.gone.set v true) .inn v))[v']?=some r:=hr
  rw[List.getElem?_set] at a0
  by_cases e:v=v'
  ·subst e
   rw[if_pos rfl] at a0
   split at a0
   ·have:=Option.some.inj a0
    subst this
    obtain⟨h0,x,u,m,e1,e2,e3,e4,e5,e6,e7⟩:=hG.hi.row hv ha
    refine⟨h0,x,i,a1 _ _ e1,by omega,ht,e7,by omega,fun k hk hh=> ?_⟩
    rw[e6] at hh
    have hn:=pG.1 e3
    rw[oW a2] at hn
    by_cases ek:k=i
    ·subst ek
     rw[ht] at hh
     have:=Option.some.inj hh
     exact hn (.inl (by omega))
    ·exact hn (.inr ((h.gone u e2).2 ⟨k,by omega,hh⟩))
   ·cases a0
  ·rw[if_neg e] at a0
   obtain⟨h0,x,j,q1,q2,q3⟩:=h.down v' r a0 a ha
   exact⟨h0,x,j,a1 _ _ q1,by omega,q3⟩
theorem RI.go{n:Nat}{es:List E4}{l:List Int}(a0:iQ n es)(hl: ∀v∈l,0<=v/\v<n): ∀i,i<=l.length->RI n l i (cV n es l i):=by
 intro i
 induction i with
 |zero=>intro _;exact RI.zero
 |succ i ih=>
  intro hi
  have e:=xAe (show i<l.length by omega)
  have hv:=hl _ (List.getElem_mem (show i<l.length by omega))
  unfold cV
  rw[e]
  simp only
  exact(ih (by omega)).step (HG.go a0 hl i (by omega)) (by have:(0:Int)<=2^i:=Int.pow_nonneg (by omega);omega) (by omega) (by rw[e];congr 1;omega)
structure RF(n:Nat)(l:List Int)(s:Ba):Prop where
 rk: ∀(i:Nat) (v:Int),l[i]?=some v->s.rank[v.toNat]?=some ((i:Nat):Int)
 up: ∀(v:Nat) (r:List Int),v<n->s.up[v]?=some r-> ∃rv,s.rank[v]?=some rv/\ ∀a∈r,0<=a/\ ∃x ru,s.b.arcs[a.toNat]?=some x/\x.f=((v:Nat):Int)/\(0<=x.t/\x.t<n)/\s.rank[x.t.toNat]?=some ru/\(x.t=((v:Nat):Int)\/ru<0\/rv<ru)/\(0<=rv\/ru<0)
 down: ∀(v:Nat) (r:List Int),v<n->s.down[v]?=some r-> ∃rv,s.rank[v]?=some rv/\ ∀a∈r,0<=a/\ ∃x ru,s.b.arcs[a.toNat]?=some x/\x.t=((v:Nat):Int)/\0<=rv/\(0<=x.f/\x.f<n)/\s.rank[x.f.toNat]?=some ru/\(ru<0\/rv<ru)
theorem Sw(n:Nat)(s:Ba)(hu:s.up.length=n)(v:Nat):v<=n-> ∀(u:Nat) (r:List Int),(eH n s v).up[u]?=some r->s.up[u]?=some r\/(u<n/\cH s.gone u=false/\r=cQ n s.b.cur s.gone .out u):=by
 induction v with
 |zero=>intro _ u r h;exact .inl h
 |succ v ih=>
  intro hv u r h
  obtain⟨e1,e2,_,_,e5⟩:=lF n s v
  unfold eH at h
  cases hg:cH (eH n s v).gone v with
  |true=>rw[hg] at h;exact ih (by omega) u r h
  |false=>
   rw[hg,cond_false] at h
   simp only at h
   rw[List.getElem?_set] at h
   by_cases e:v=u
   ·subst e
    rw[if_pos rfl] at h
    split at h
    ·rw[e1,e2] at h
     rw[e2] at hg
     exact .inr ⟨by omega,hg,(Option.some.inj h).symm⟩
    ·cases h
   ·rw[if_neg e] at h
    exact ih (by omega) u r h
theorem RF.of{n:Nat}{es:List E4}{l:List Int}(a7:iQ n es)(hl: ∀v∈l,0<=v/\v<n)(a9:l.Nodup):RF n l (iH n es l):=by
 have h:=RI.go a7 hl l.length (Nat.le_refl _)
 have hG:=HG.go a7 hl l.length (Nat.le_refl _)
 obtain⟨e1,e2,e3,e4,e5⟩:=lF n (cV n es l l.length) n
 have a8: ∀{j:Nat} {x:Int},l[j]?=some x->j<l.length:=fun hj=>(xAg.1 hj).1
 have a3: ∀{i j:Nat} {x:Int},l[i]?=some x->l[j]?=some x->i=j:=fun{i j x} hi hj=>by
  obtain⟨a1,a2⟩:=xAg.1 hi
  obtain⟨b1,b2⟩:=xAg.1 hj
  exact(List.getElem?_inj a1 a9).1 (hi.trans hj.symm)
 have a4: ∀u:Nat,u<n-> ∃r,(cV n es l l.length).rank[u]?=some r:=fun u hu=>⟨_,xAe (by rw[hG.rank];exact hu)⟩
 unfold iH
 refine⟨fun i v hi=> ?_,fun v r hv hr=> ?_,fun v r hv hr=> ?_⟩
 ·rw[e3]
  have hb:=hl v (xAh hi)
  obtain⟨r,hr⟩:=a4 v.toNat (by omega)
  have ev:((v.toNat:Nat):Int)=v:=by omega
  rw[hr]
  rcases h.rk _ _ hr with⟨_,h2⟩|⟨j,_,h2,h3⟩
  ·exact absurd (by rw[ev];exact hi) (h2 i (a8 hi))
  ·rw[ev] at h2
   rw[h3,a3 h2 hi]
 ·rw[e1,e3]
  obtain⟨rv,a6⟩:=a4 v hv
  refine⟨rv,a6,fun a ha=> ?_⟩
  rcases Sw n _ hG.up n (Nat.le_refl _) v r hr with b0|⟨_,hg,rfl⟩
  ·obtain⟨h0,x,j,q1,q2,q3,q4,q5,q6⟩:=h.up v r b0 a ha
   obtain⟨ru,a0⟩:=a4 x.t.toNat (by omega)
   have et:((x.t.toNat:Nat):Int)=x.t:=by omega
   rcases h.rk _ _ a6 with⟨_,w⟩|⟨j',w1,w2,w3⟩
   ·exact absurd q3 (w j q2)
   ·have:=a3 w2 q3
    refine⟨h0,x,ru,q1,q4,q5,a0,?_,.inl (by omega)⟩
    rcases q6 with q6|q6
    ·exact .inl q6
    ·rcases h.rk _ _ a0 with⟨w4,_⟩|⟨k,w4,w5,w6⟩
     ·exact .inr (.inl (by omega))
     ·rw[et] at w5
      by_cases hk:k<=j
      ·exact absurd w5 (q6 k hk)
      ·exact .inr (.inr (by omega))
  ·obtain⟨h0,x,u,m,q1,q2,q3,q4,q5,q6,q7⟩:=hG.hi.row hv ha
   obtain⟨ru,a0⟩:=a4 x.t.toNat (by omega)
   have et:((x.t.toNat:Nat):Int)=x.t:=by omega
   have a5:ru<0:=by
    rcases h.rk _ _ a0 with⟨w4,_⟩|⟨k,w4,w5,w6⟩
    ·omega
    ·exact absurd ((h.gone u q2).2 ⟨k,w4,by rw[w5];congr 1;omega⟩) (pG.1 q3)
   exact⟨h0,x,ru,q1,q6,by omega,a0,.inr (.inl a5),.inr a5⟩
 ·rw[e1,e3]
  rw[e4] at hr
  obtain⟨rv,a6⟩:=a4 v hv
  refine⟨rv,a6,fun a ha=> ?_⟩
  obtain⟨h0,x,j,q1,q2,q3,q4,q5,q6⟩:=h.down v r hr a ha
  obtain⟨ru,a0⟩:=a4 x.f.toNat (by omega)
  have et:((x.f.toNat:Nat):Int)=x.f:=by omega
  rcases h.rk _ _ a6 with⟨_,w⟩|⟨j',w1,w2,w3⟩
  ·exact absurd q3 (w j q2)
  ·have:=a3 w2 q3
   refine⟨h0,x,ru,q1,q4,by omega,q5,a0,?_⟩
   rcases h.rk _ _ a0 with⟨w4,_⟩|⟨k,w4,w5,w6⟩
   ·exact .inl (by omega)
   ·rw[et] at w5
    by_cases hk:k<=j
    ·exact absurd w5 (q6 k hk)
    ·exact .inr (by omega)
end Go.Am
end

noncomputable section
namespace Go.Am
open Go
set_option linter.unusedVariables false
def mY(es:List E4)(m:Int):Int->List Int->Int->Prop
 |u,[],w=>u=w
 |u,i::l,w=>0<=i/\ ∃e,es[i.toNat]?=some e/\e.f=u/\e.m=m/\mY es m e.t l w
def qV(es:List E4):List Int->Int
 | []=>0
 |i::l=>dS es i+qV es l
def toE(es:List E4)(i:Int):Int:=((es[i.toNat]?).map (·.t)).getD 0
def kO(es:List E4):List Int->List Int
 | []=> []
 |i::l=>match l with
  | []=> []
  |j::l=>toE es i::kO es (j::l)
theorem zW{es:List E4}{i:Int}{e:E4}(h:es[i.toNat]?=some e):toE es i=e.t:=by unfold toE;rw[h];rfl
theorem tK{es:List E4}{i:Int}{e:E4}(h:es[i.toNat]?=some e):dS es i=e.c:=by unfold dS;rw[h];rfl
theorem Td(es:List E4)(i:Int):kO es [i]= []:=rfl
theorem lP(es:List E4)(i:Int){l:List Int}(h:l≠ []):kO es (i::l)=toE es i::kO es l:=by
 cases l with
 |nil=>exact absurd rfl h
 |cons j l=>rfl
theorem yK(es:List E4)(l l':List Int):qV es (l++l')=qV es l+qV es l':=by
 induction l with
 |nil=>simp [qV]
 |cons i l ih=>rw[List.cons_append,qV,qV,ih];omega
theorem mY.app{es:List E4}{m v w:Int}{l l':List Int}: ∀{u:Int},mY es m u l v->mY es m v l' w->mY es m u (l++l') w:=by
 induction l with
 |nil=>intro u h h';cases h;exact h'
 |cons i l ih=>intro u h h';obtain⟨h1,e,h2,h3,h4,h5⟩:=h;exact⟨h1,e,h2,h3,h4,ih h5 h'⟩
theorem xL{es:List E4}{m v:Int}{l l':List Int}(hn:l'≠ []): ∀{u:Int},l≠ []->mY es m u l v->kO es (l++l')=kO es l++v::kO es l':=by
 induction l with
 |nil=>intro u h;exact absurd rfl h
 |cons i l ih=>
  intro u _ h
  obtain⟨h1,e,h2,h3,h4,h5⟩:=h
  cases l with
  |nil=>
   cases h5
   show kO es (i::l')=_
   rw[lP es i hn,zW h2,Td];rfl
  |cons j l=>
   have:=ih (by simp) h5
   show toE es i::kO es ((j::l)++l')=(toE es i::kO es (j::l))++v::kO es l'
   rw[this];rfl
theorem mY.split{es:List E4}{m w z:Int}{l:List Int}: ∀{u:Int},mY es m u l w->z∈kO es l-> ∃l1 l2,l=l1++l2/\l1≠ []/\l2≠ []/\mY es m u l1 z/\mY es m z l2 w:=by
 induction l with
 |nil=>intro u _ h;cases h
 |cons i l ih=>
  intro u h hz
  obtain⟨h1,e,h2,h3,h4,h5⟩:=h
  cases l with
  |nil=>cases hz
  |cons j l=>
   rw[lP es i (by simp),zW h2] at hz
   rcases List.mem_cons.1 hz with rfl|hz
   ·exact⟨[i],j::l,rfl,by simp,by simp,⟨h1,e,h2,h3,h4,rfl⟩,h5⟩
   ·obtain⟨l1,l2,q1,q2,q3,q4,q5⟩:=ih h5 hz
    exact⟨i::l1,l2,by rw[q1];rfl,by simp,q3,⟨h1,e,h2,h3,h4,q4⟩,q5⟩
theorem Kk{n:Nat}{es:List E4}(hes:iQ n es)(i:Int):0<=dS es i:=by
 unfold dS
 cases h:es[i.toNat]? with
 |none=>exact Int.le_refl _
 |some e=>exact(hes e (xAh h)).2.2.2.1
theorem zY{n:Nat}{es:List E4}(hes:iQ n es): ∀l:List Int,0<=qV es l
 | []=>Int.le_refl _
 |i::l=>by have:=Kk hes i;have:=zY hes l;rw[qV];omega
theorem Pb{n:Nat}{es:List E4}(a0:iQ n es): ∀l:List Int,qV es l<=l.length*2147483647
 | []=>by simp [qV]
 |i::l=>by
  have:dS es i<=2147483647:=by
   unfold dS
   cases h:es[i.toNat]? with
   |none=>show(0:Int)<=_;omega
   |some e=>exact(a0 e (xAh h)).2.2.2.2
  have:=Pb a0 l
  rw[qV,List.length_cons]
  push_cast
  omega
theorem Kw(es:List E4): ∀l:List Int,l≠ []->l.length=(kO es l).length+1
 | [],h=>absurd rfl h
 | [i],_=>rfl
 |i::j::l,_=>by
  have:=Kw es (j::l) (by simp)
  rw[lP es i (by simp)]
  simp only [List.length_cons] at this⊢
  omega
theorem mY.range{n:Nat}{es:List E4}(a0:iQ n es){m w:Int}{l:List Int}: ∀{u:Int},mY es m u l w->l≠ []->(0<=u/\u<n)/\(0<=w/\w<n)/\(0<=m/\m<5)/\(∀z∈kO es l,0<=z/\z<n)/\ ∀i∈l,0<=i/\i<es.length:=by
 induction l with
 |nil=>intro u _ h;exact absurd rfl h
 |cons i l ih=>
  intro u h _
  obtain⟨h1,e,h2,rfl,rfl,h5⟩:=h
  obtain⟨q1,q2,q3,_⟩:=a0 e (xAh h2)
  have hi:=(xAg.1 h2).1
  cases l with
  |nil=>
   cases h5
   exact⟨q1,q2,q3,fun z hz=>(by cases hz),fun j hj=>by rw[List.mem_singleton.1 hj];omega⟩
  |cons j l=>
   obtain⟨r1,r2,r3,r4,r5⟩:=ih h5 (by simp)
   refine⟨q1,r2,q3,fun z hz=> ?_,fun k hk=> ?_⟩
   ·rw[lP es i (by simp),zW h2] at hz
    rcases List.mem_cons.1 hz with rfl|hz
    ·exact q2
    ·exact r4 z hz
   ·rcases List.mem_cons.1 hk with rfl|hk
    ·omega
    ·exact r5 k hk
theorem mY.red{n:Nat}{es:List E4}(a1:iQ n es){m w v:Int}{G:Int->Prop}{l:List Int}: ∀{u:Int},mY es m u l w->l≠ []->(∀z∈kO es l,z=v\/G z)->
  (∃l',l'≠ []/\mY es m u l' w/\qV es l'<=qV es l/\ ∀z∈kO es l',G z)\/(∃l1 l2,l1≠ []/\l2≠ []/\mY es m u l1 v/\mY es m v l2 w/\(∀z∈kO es l1,G z)/\(∀z∈kO es l2,G z)/\qV es l1+qV es l2<=qV es l):=by
 induction l with
 |nil=>intro u _ h;exact absurd rfl h
 |cons i l ih=>
  intro u h _ hz
  obtain⟨h1,e,h2,h3,h4,h5⟩:=h
  have a0:mY es m u [i] e.t:=⟨h1,e,h2,h3,h4,rfl⟩
  by_cases hl:l= []
  ·subst hl
   exact .inl ⟨[i],by simp,⟨h1,e,h2,h3,h4,h5⟩,Int.le_refl _,fun z hz=>by cases hz⟩
  ·rw[lP es i hl,zW h2] at hz
   have hv:=hz e.t (List.mem_cons_self ..)
   have a2:=Kk a1 i
   rcases ih h5 hl (fun z hzz=>hz z (List.mem_cons_of_mem _ hzz)) with⟨l',q1,q2,q3,q4⟩|⟨l1,l2,q1,q2,q3,q4,q5,q6,q7⟩
   ·rcases hv with hv|hv
    ·rw[hv] at a0 q2
     exact .inr ⟨[i],l',by simp,q1,a0,q2,fun z hz=>(by cases hz),q4,by simp only [qV];omega⟩
    ·refine .inl ⟨i::l',by simp,⟨h1,e,h2,h3,h4,q2⟩,by simp only [qV];omega,fun z hzz=> ?_⟩
     rw[lP es i q1,zW h2] at hzz
     rcases List.mem_cons.1 hzz with rfl|hzz
     ·exact hv
     ·exact q4 z hzz
   ·have a3:=zY a1 l1
    rcases hv with hv|hv
    ·rw[hv] at a0
     exact .inr ⟨[i],l2,by simp,q2,a0,q4,fun z hz=>(by cases hz),q6,by simp only [qV];omega⟩
    ·refine .inr ⟨i::l1,l2,by simp,q2,⟨h1,e,h2,h3,h4,q3⟩,q4,fun z hzz=> ?_,q6,by simp only [qV];omega⟩
     rw[lP es i q1,zW h2] at hzz
     rcases List.mem_cons.1 hzz with rfl|hzz
     ·exact hv
     ·exact q5 z hzz
inductive Un(arcs:List A7):Nat->List Int->Prop
 |one {i:Nat} {x:A7}:arcs[i]?=some x->0<=x.e->Un arcs i [x.e]
 |two {i j k:Nat} {x:A7} {l1 l2:List Int}:arcs[i]?=some x->x.e= -1->x.a=((j:Nat):Int)->x.b=((k:Nat):Int)->j<i->k<i->Un arcs j l1->Un arcs k l2->Un arcs i (l1++l2)
theorem Un.mono{arcs arcs':List A7}(h: ∀(i:Nat) (x:A7),arcs[i]?=some x->arcs'[i]?=some x){i:Nat}{l:List Int}(hu:Un arcs i l):Un arcs' i l:=by
 induction hu with
 |one h1 h2=>exact .one (h _ _ h1) h2
 |two h1 h2 h3 h4 h5 h6 _ _ i1 i2=>exact .two (h _ _ h1) h2 h3 h4 h5 h6 i1 i2
theorem Un.uniq{arcs:List A7}{i:Nat}{l l':List Int}(h:Un arcs i l)(h':Un arcs i l'):l=l':=by
 induction h generalizing l' with
 |one h1 h2=>
  cases h' with
  |one k1 k2=>rw[h1] at k1;cases k1;rfl
  |two k1 k2=>rw[h1] at k1;cases k1;omega
 |two h1 h2 h3 h4 h5 h6 _ _ i1 i2=>
  cases h' with
  |one k1 k2=>rw[h1] at k1;cases k1;omega
  |two k1 k2 k3 k4 k5 k6 k7 k8=>
   rw[h1] at k1
   cases k1
   have e1:=h3.symm.trans k3
   have e2:=h4.symm.trans k4
   have e1:=Int.ofNat.inj e1
   have e2:=Int.ofNat.inj e2
   subst e1
   subst e2
   rw[i1 k7,i2 k8]
structure AF(n:Nat)(es:List E4)(G:Int->Prop)(arcs:List A7)(i:Nat)(x:A7)(l:List Int):Prop where
 un:Un arcs i l
 ne:l≠ []
 wk:mY es x.m x.f l x.t
 cost:qV es l=x.c
 inn: ∀z∈kO es l,G z
 nd:(kO es l).Nodup
 form:(∃e,0<=x.e/\es[x.e.toNat]?=some e/\x=iJ x.e e)\/(∃j k p q,j<i/\k<i/\arcs[j]?=some p/\arcs[k]?=some q/\x=mK p q ((j:Nat):Int) ((k:Nat):Int)/\p.m=q.m/\p.t=q.f)
theorem AF.mono{n:Nat}{es:List E4}{G G':Int->Prop}{arcs a0:List A7}{i:Nat}{x:A7}{l:List Int}(h:AF n es G arcs i x l)(hG: ∀z,G z->G' z)(ha: ∀(i:Nat) (x:A7),arcs[i]?=some x->a0[i]?=some x):AF n es G' a0 i x l:=
 ⟨h.un.mono ha,h.ne,h.wk,h.cost,fun z hz=>hG z (h.inn z hz),h.nd,h.form.imp id fun⟨j,k,p,q,h1,h2,h3,h4,h5⟩=>⟨j,k,p,q,h1,h2,ha _ _ h3,ha _ _ h4,h5⟩⟩
theorem AF.len{n:Nat}{es:List E4}(hes:iQ n es){G:Int->Prop}{arcs:List A7}{i:Nat}{x:A7}{l:List Int}(h:AF n es G arcs i x l):l.length<=n+1:=by
 have h1:=Kw es l h.ne
 have h2:=rD h.nd (h.wk.range hes h.ne).2.2.2.1
 omega
end Go.Am
end

noncomputable section
namespace Go.Am
open Go
set_option linter.unusedVariables false
def kS(n:Nat)(s:HB)(u w m c:Int):Prop:= ∃(i:Int) (x:A7),aX s.cur (dP n u w m).toNat=i/\0<=i/\s.arcs[i.toNat]?=some x/\x.c<=c/\x.f=u/\x.t=w/\x.m=m
theorem kS.le{n:Nat}{s:HB}{u w m c c':Int}(h:kS n s u w m c)(hc:c<=c'):kS n s u w m c':=by
 obtain⟨i,x,h1,h2,h3,h4,h5⟩:=h
 exact⟨i,x,h1,h2,h3,Int.le_trans h4 hc,h5⟩
def Aok(n:Nat)(a:A7):Prop:=(0<=a.f/\a.f<n)/\(0<=a.t/\a.t<n)/\(0<=a.m/\a.m<5)
theorem kS.notLow{n:Nat}{s:HB}{a:A7}{c:Int}(h:kS n s a.f a.t a.m c)(hc:c<=a.c):dM (cU s.arcs) (aX s.cur (gO n a)) a.c=false:=by
 obtain⟨i,x,h1,h2,h3,h4,_⟩:=h
 have e:cU s.arcs i=x.c:=by unfold cU;rw[h3];rfl
 unfold dM gO
 rw[h1,e]
 have q1:(i==(-1:Int))=false:=by rw[beq_eq_false_iff_ne];omega
 rw[q1]
 exact xAa (by omega)
theorem kS.offer{n:Nat}{C:Int}{s:HB}(hI:HI n C s){a:A7}(ha:Aok n a){u w m c:Int}(h:kS n s u w m c):kS n (fO n s a) u w m c:=by
 unfold fO
 cases hq:dM (cU s.arcs) (aX s.cur (gO n a)) a.c with
 |false=>exact h
 |true=>
  obtain⟨i,x,h1,h2,h3,h4,h5,h6,h7⟩:=h
  have hx:=hI.arc x (xAh h3)
  have hp:=iP ha.1 ha.2.1 ha.2.2
  have hk:gO n a<s.cur.length:=by rw[hI.len];unfold gO;omega
  simp only [cond_true]
  by_cases e:gO n a=(dP n u w m).toNat
  ·have a0:=iP hx.1 hx.2.1 hx.2.2.1
   have e2:dP n a.f a.t a.m=dP n x.f x.t x.m:=by unfold gO at e;rw[h5,h6,h7] at*;omega
   obtain⟨r1,r2,r3⟩:=Ea ha.1 ha.2.1 ha.2.2 hx.1 hx.2.1 hx.2.2.1 e2
   refine⟨s.arcs.length,a,?_,by omega,?_,?_,by omega,by omega,by omega⟩
   ·unfold aX
    rw[<-e,List.getElem?_set_self hk];rfl
   ·rw[Int.toNat_natCast,List.getElem?_append_right (Nat.le_refl _),Nat.sub_self];rfl
   ·have ec:cU s.arcs i=x.c:=by unfold cU;rw[h3];rfl
    unfold dM at hq
    rw[e,h1,ec] at hq
    simp only [Bool.or_eq_true,beq_iff_eq,decide_eq_true_eq] at hq
    omega
  ·refine⟨i,x,?_,h2,?_,h4,h5,h6,h7⟩
   ·unfold aX
    rw[List.getElem?_set_ne e];exact h1
   ·show(s.arcs++ [a])[i.toNat]?=_
    rw[List.getElem?_append_left (xAg.1 h3).1];exact h3
theorem Cz{n:Nat}{C:Int}{s:HB}(hI:HI n C s){a:A7}(ha:Aok n a):kS n (fO n s a) a.f a.t a.m a.c:=by
 have hp:=iP ha.1 ha.2.1 ha.2.2
 have hk:gO n a<s.cur.length:=by rw[hI.len];unfold gO;omega
 unfold fO
 cases hq:dM (cU s.arcs) (aX s.cur (gO n a)) a.c with
 |false=>
  unfold dM at hq
  simp only [Bool.or_eq_false_iff,beq_eq_false_iff_ne,decide_eq_false_iff_not] at hq
  rcases hI.cur _ _ (gI hk) with e|⟨h0,x,h1,h2⟩
  ·exact absurd e hq.1
  ·have hx:=hI.arc x (xAh h1)
   have a0:=iP hx.1 hx.2.1 hx.2.2.1
   have e2:dP n x.f x.t x.m=dP n a.f a.t a.m:=by unfold gO at h2;omega
   obtain⟨r1,r2,r3⟩:=Ea hx.1 hx.2.1 hx.2.2.1 ha.1 ha.2.1 ha.2.2 e2
   have ec:cU s.arcs (aX s.cur (gO n a))=x.c:=by unfold cU;rw[h1];rfl
   rw[ec] at hq
   exact⟨_,x,rfl,h0,h1,by omega,r1,r2,r3⟩
 |true=>
  refine⟨s.arcs.length,a,?_,by omega,?_,Int.le_refl _,rfl,rfl,rfl⟩
  ·show((s.cur.set (gO n a) _)[gO n a]?).getD _=_
   rw[List.getElem?_set_self hk];rfl
  ·show(s.arcs++ [a])[_]?=_
   rw[Int.toNat_natCast,List.getElem?_append_right (Nat.le_refl _),Nat.sub_self];rfl
theorem Me{n:Nat}{cur:List Int}{w:wV}{v u:Nat}{i:Int}(hi:i≠ -1): ∀{m k:Nat},k<m->aX cur (bK n w v u k)=i->i∈gS n cur w v u m
 |0,k,hk,_=>by omega
 |m+1,k,hk,h=>by
  unfold gS
  by_cases e:k=m
  ·subst e
   have:(aX cur (bK n w v u k)==(-1:Int))=false:=by rw[h,beq_eq_false_iff_ne];exact hi
   rw[this,h]
   simp
  ·exact List.mem_append_left _ (Me hi (show k<m by omega) h)
theorem zQ{n:Nat}{cur:List Int}{g:List Bool}{w:wV}{v:Nat}{i:Int}(hi:i≠ -1){x k:Nat}(hg:cH g x=false)(hk:k<5)(h:aX cur (bK n w v x k)=i): ∀{u:Nat},x<u->i∈eP n cur g w v u
 |0,hu=>by omega
 |u+1,hu=>by
  unfold eP
  by_cases e:x=u
  ·subst e
   rw[hg]
   exact List.mem_append_right _ (Me hi hk h)
  ·exact List.mem_append_left _ (zQ hi hg hk h (show x<u by omega))
structure SP(n:Nat)(es:List E4)(G:Int->Prop)(s:HB):Prop where
 arc: ∀(i:Nat) (x:A7),s.arcs[i]?=some x-> ∃l,AF n es G s.arcs i x l
 least: ∀{u w m:Int} {l:List Int},¬G u-> ¬G w->mY es m u l w->l≠ []->(∀z∈kO es l,G z)->kS n s u w m (qV es l)
structure BI(n:Nat)(es:List E4)(C:Int)(G:Int->Prop)(v:Nat)(s0 s:HB):Prop where
 br: ∃k,Bj n C s0 k s
 keep: ∀{u w m c:Int},kS n s0 u w m c->kS n s u w m c
 arc: ∀(i:Nat) (x:A7),s.arcs[i]?=some x-> ∃l,AF n es (fun z=>z=((v:Nat):Int)\/G z) s.arcs i x l
structure Vk(G:Int->Prop)(v:Nat)(s0:HB)(i:Int)(x:A7):Prop where
 nn:0<=i
 at_:s0.arcs[i.toNat]?=some x
 t:x.t=((v:Nat):Int)
 ng: ¬G x.f
 ne:x.f≠((v:Nat):Int)
structure Pd(G:Int->Prop)(v:Nat)(s0:HB)(o:Int)(y:A7):Prop where
 nn:0<=o
 at_:s0.arcs[o.toNat]?=some y
 f:y.f=((v:Nat):Int)
 ng: ¬G y.t
theorem BI.one{n v:Nat}{es:List E4}{C:Int}{G:Int->Prop}{s0 s:HB}{i o:Int}{x y:A7}(a6:iQ n es)(h0:HI n C s0)(hS:SP n es G s0)(hv: ¬G ((v:Nat):Int))(h:BI n es C G v s0 s)(hi:Vk G v s0 i x)(ho:Pd G v s0 o y):
  BI n es C G v s0 (sK n v i s o)/\(∀{u w m c:Int},kS n s u w m c->kS n (sK n v i s o) u w m c)/\(y.t≠((v:Nat):Int)->x.m=y.m->kS n (sK n v i s o) x.f y.t x.m (x.c+y.c)):=by
 obtain⟨k,hk⟩:=h.br
 have a3:=hk.one (v:=v) h0 (i:=i) (o:=o) (xAg.1 hi.at_).1 (xAg.1 ho.at_).1
 have hx:=hk.old _ _ hi.at_
 have hy:=hk.old _ _ ho.at_
 have ax:=h0.arc x (xAh hi.at_)
 have ay:=h0.arc y (xAh ho.at_)
 have hA:Aok n (mK x y i o):=⟨ax.1,ay.2.1,ax.2.2.1⟩
 unfold sK at a3⊢
 rw[hx,hy] at a3⊢
 simp only at a3⊢
 cases hq:(y.t !=(v:Int)&&x.m==y.m) with
 |false=>
  rw[hq] at a3
  refine⟨h,fun hh=>hh,fun e1 e2=> ?_⟩
  have:(y.t !=(v:Int)&&x.m==y.m)=true:=by simp [e1,e2]
  rw[this] at hq
  cases hq
 |true=>
  rw[hq] at a3
  simp only [Bool.and_eq_true,bne_iff_ne,beq_iff_eq] at hq
  obtain⟨hyt,hm⟩:=hq
  simp only [cond_true] at a3⊢
  have a0: ∀{u w m c:Int},kS n s u w m c->kS n (fO n s (mK x y i o)) u w m c:=fun hh=>hh.offer hk.hi hA
  refine⟨⟨⟨_,a3⟩,fun hh=>a0 (h.keep hh),fun j z hz=> ?_⟩,a0,fun _ _=>Cz hk.hi hA⟩
  have hold: ∀(i:Nat) (q:A7),s.arcs[i]?=some q->(fO n s (mK x y i o)).arcs[i]?=some q:=fun _ _ hh=>wG hh
  have a1: ∀(j:Nat) (q:A7),s.arcs[j]?=some q->(fO n s (mK x y i o)).arcs[j]?=some q:=fun _ _ hh=>wG hh
  by_cases hj:j<s.arcs.length
  ·have e1:=xAe hj
   have e2:=a1 _ _ e1
   rw[hz] at e2
   obtain⟨l,hl⟩:=h.arc j z (by rw[e1,<-e2])
   exact⟨l,hl.mono (fun _ hh=>hh) a1⟩
  ·unfold fO at hz⊢
   cases hlow:dM (cU s.arcs) (aX s.cur (gO n (mK x y i o))) (mK x y i o).c with
   |false=>
    rw[hlow] at hz
    have:=(xAg.1 hz).1
    exact absurd this hj
   |true=>
    rw[hlow] at hz
    simp only [cond_true] at hz⊢
    rw[List.getElem?_append_right (by omega)] at hz
    have b2:j=s.arcs.length:=by
     have:=(xAg.1 hz).1
     simp only [List.length_cons,List.length_nil] at this
     omega
    subst b2
    rw[Nat.sub_self] at hz
    have ez:mK x y i o=z:=Option.some.inj hz
    subst ez
    obtain⟨l1,h1⟩:=hS.arc _ _ hi.at_
    obtain⟨l2,h2⟩:=hS.arc _ _ ho.at_
    have w1:=h1.wk
    have w2:=h2.wk
    rw[hi.t] at w1
    rw[ho.f,<-hm] at w2
    have a5:kO es (l1++l2)=kO es l1++((v:Nat):Int)::kO es l2:=xL h2.ne h1.ne w1
    have a2: ∀(j:Nat) (q:A7),s.arcs[j]?=some q->(s.arcs++ [mK x y i o])[j]?=some q:=fun j q hh=>by
     rw[List.getElem?_append_left (xAg.1 hh).1];exact hh
    have a7:=(xAg.1 hx).1
    have a8:=(xAg.1 hy).1
    have b1:=hi.nn
    have b3:=ho.nn
    have old0: ∀(j:Nat) (q:A7),s0.arcs[j]?=some q->(s.arcs++ [mK x y i o])[j]?=some q:=fun j q hh=>a2 j q (hk.old j q hh)
    refine⟨l1++l2,.two (j:=i.toNat) (k:=o.toNat) (x:=mK x y i o) (by rw[List.getElem?_append_right (Nat.le_refl _),Nat.sub_self];rfl) rfl (by show i=_;omega) (by show o=_;omega) a7 a8 (h1.un.mono old0) (h2.un.mono old0),by simp [h1.ne],w1.app w2,?_,fun z hz=> ?_,?_,.inr ⟨i.toNat,o.toNat,x,y,a7,a8,a2 _ _ hx,a2 _ _ hy,by rw[Int.toNat_of_nonneg b1,Int.toNat_of_nonneg b3],hm,by rw[hi.t,ho.f]⟩⟩
    ·rw[yK,h1.cost,h2.cost];rfl
    ·rw[a5] at hz
     rcases List.mem_append.1 hz with hz|hz
     ·exact .inr (h1.inn z hz)
     ·rcases List.mem_cons.1 hz with hz|hz
      ·exact .inl hz
      ·exact .inr (h2.inn z hz)
    ·rw[a5]
     refine List.nodup_append.2 ⟨h1.nd,List.nodup_cons.2 ⟨fun hh=>hv (h2.inn _ hh),h2.nd⟩,fun a ha b hb e=> ?_⟩
     subst e
     rcases List.mem_cons.1 hb with e|hb
     ·subst e;exact hv (h1.inn _ ha)
     ·obtain⟨p,p',e1,n1,b5,k1,k1'⟩:=w1.split ha
      obtain⟨r,r',e2,n2,b0,k2,b4⟩:=w2.split hb
      have hw:=k1.app b4
      have a4:kO es (p++r')=kO es p++a::kO es r':=xL b0 n1 k1
      have ep:kO es l1=kO es p++a::kO es p':=by rw[e1];exact xL b5 n1 k1
      have er:kO es l2=kO es r++a::kO es r':=by rw[e2];exact xL b0 n2 k2
      have hh:=hS.least (u:=x.f) (w:=y.t) (m:=x.m) (l:=p++r') hi.ng ho.ng hw (by simp [n1]) (fun z hz=>by
       rw[a4] at hz
       rcases List.mem_append.1 hz with hz|hz
       ·exact h1.inn z (by rw[ep];exact List.mem_append_left _ hz)
       ·rcases List.mem_cons.1 hz with hz|hz
        ·rw[hz];exact h1.inn a ha
        ·exact h2.inn z (by rw[er];exact List.mem_append_right _ (List.mem_cons_of_mem _ hz)))
      have b6:qV es l1=qV es p+qV es p':=by rw[e1,yK]
      have b7:qV es l2=qV es r+qV es r':=by rw[e2,yK]
      have:=zY a6 p'
      have:=zY a6 r
      have g1:=h1.cost
      have g2:=h2.cost
      have a9:=(h.keep hh).notLow (a:=mK x y i o) (c:=qV es (p++r')) (by show _<=x.c+y.c;rw[yK];omega)
      rw[hlow] at a9
      cases a9
theorem BI.row{n v:Nat}{es:List E4}{C:Int}{G:Int->Prop}{s0:HB}{i:Int}{x:A7}(a0:iQ n es)(h0:HI n C s0)(hS:SP n es G s0)(hv: ¬G ((v:Nat):Int))(hi:Vk G v s0 i x): ∀(ups:List Int) (s:HB),BI n es C G v s0 s->(∀o∈ups,∃y,Pd G v s0 o y)->
  BI n es C G v s0 (tH n v ups s i)/\(∀{u w m c:Int},kS n s u w m c->kS n (tH n v ups s i) u w m c)/\(∀o∈ups,∀y,s0.arcs[o.toNat]?=some y->y.t≠((v:Nat):Int)->x.m=y.m->kS n (tH n v ups s i) x.f y.t x.m (x.c+y.c)):=by
 intro ups
 unfold tH
 induction ups with
 |nil=>intro s h _;exact⟨h,fun hh=>hh,fun o ho=>by cases ho⟩
 |cons o ups ih=>
  intro s h ho
  obtain⟨y,hy⟩:=ho o (List.mem_cons_self ..)
  obtain⟨a1,a2,a3⟩:=h.one a0 h0 hS hv hi hy
  obtain⟨b1,b2,b3⟩:=ih _ a1 (fun o' ho'=>ho o' (List.mem_cons_of_mem _ ho'))
  rw[List.foldl_cons]
  refine⟨b1,fun hh=>b2 (a2 hh),fun o' ho' y' hy' q1 q2=> ?_⟩
  rcases List.mem_cons.1 ho' with rfl|ho'
  ·rw[hy.at_] at hy'
   cases hy'
   exact b2 (a3 q1 q2)
  ·exact b3 o' ho' y' hy' q1 q2
theorem BI.all{n v:Nat}{es:List E4}{C:Int}{G:Int->Prop}{s0:HB}{ups:List Int}(a0:iQ n es)(h0:HI n C s0)(hS:SP n es G s0)(hv: ¬G ((v:Nat):Int))(hu: ∀o∈ups,∃y,Pd G v s0 o y): ∀(downs:List Int) (s:HB),BI n es C G v s0 s->(∀i∈downs,∃x,Vk G v s0 i x)->
  BI n es C G v s0 (rA n v ups downs s)/\(∀{u w m c:Int},kS n s u w m c->kS n (rA n v ups downs s) u w m c)/\(∀i∈downs,∀o∈ups,∀x y,s0.arcs[i.toNat]?=some x->s0.arcs[o.toNat]?=some y->y.t≠((v:Nat):Int)->x.m=y.m->kS n (rA n v ups downs s) x.f y.t x.m (x.c+y.c)):=by
 intro downs
 unfold rA
 induction downs with
 |nil=>intro s h _;exact⟨h,fun hh=>hh,fun o ho=>by cases ho⟩
 |cons i downs ih=>
  intro s h hd
  obtain⟨x,hx⟩:=hd i (List.mem_cons_self ..)
  obtain⟨a1,a2,a3⟩:=BI.row a0 h0 hS hv hx ups s h hu
  obtain⟨b1,b2,b3⟩:=ih _ a1 (fun o' ho'=>hd o' (List.mem_cons_of_mem _ ho'))
  rw[List.foldl_cons]
  refine⟨b1,fun hh=>b2 (a2 hh),fun i' hi' o ho x' y' hx' hy' q1 q2=> ?_⟩
  rcases List.mem_cons.1 hi' with rfl|hi'
  ·rw[hx.at_] at hx'
   cases hx'
   exact b2 (a3 o ho y' hy' q1 q2)
  ·exact b3 i' hi' o ho x' y' hx' hy' q1 q2
def GS(n:Nat)(g:List Bool)(z:Int):Prop:=(0<=z/\z<n)/\cH g z.toNat=true
theorem Yr{n v:Nat}{g:List Bool}(hv:v<n)(hg:g.length=n){z:Int}:GS n (g.set v true) z↔z=((v:Nat):Int)\/GS n g z:=by
 unfold GS
 rw[oW (by omega)]
 constructor
 ·rintro⟨h1,h2|h2⟩
  ·exact .inl (by omega)
  ·exact .inr ⟨h1,h2⟩
 ·rintro(rfl|⟨h1,h2⟩)
  ·exact⟨by omega,.inl (by omega)⟩
  ·exact⟨h1,.inr h2⟩
theorem Wk(n v u m:Nat):bK n .out v u m=(dP n ((v:Nat):Int) ((u:Nat):Int) ((m:Nat):Int)).toNat:=by
 have:((bK n .out v u m:Nat):Int)=dP n (v:Int) (u:Int) (m:Int):=by unfold bK dP;push_cast;rfl
 omega
theorem Zp(n v u m:Nat):bK n .inn v u m=(dP n ((u:Nat):Int) ((v:Nat):Int) ((m:Nat):Int)).toNat:=by
 have:((bK n .inn v u m:Nat):Int)=dP n (u:Int) (v:Int) (m:Int):=by unfold bK dP;push_cast;rfl
 omega
theorem SP.leave{n k v:Nat}{es:List E4}{C:Int}{s:Ba}(a3:iQ n es)(hC:0<=C)(hG:HG n C k s)(hv:v<n)(a8:cH s.gone v=false)(h:SP n es (GS n s.gone) s.b):
  SP n es (GS n (nV n s v).gone) (nV n s v).b/\(∀{u w m c:Int},kS n s.b u w m c->kS n (nV n s v).b u w m c)/\(∀i∈cQ n s.b.cur (s.gone.set v true) .inn v,∀o∈cQ n s.b.cur s.gone .out v,∀x y,s.b.arcs[i.toNat]?=some x->s.b.arcs[o.toNat]?=some y->y.t≠((v:Nat):Int)->x.m=y.m->kS n (nV n s v).b x.f y.t x.m (x.c+y.c)):=by
 have a7: ¬GS n s.gone ((v:Nat):Int):=fun hh=>by have:=hh.2;rw[Int.toNat_natCast,a8] at this;cases this
 have hO: ∀o∈cQ n s.b.cur s.gone .out v,∃y,Pd (GS n s.gone) v s.b o y:=fun o ho=>by
  obtain⟨q1,y,u,m,q2,q3,q4,q5,q6,q7,q8⟩:=hG.hi.row hv ho
  exact⟨y,q1,q2,q7,fun hh=>by have:=hh.2;rw[q8,Int.toNat_natCast,q4] at this;cases this⟩
 have hN: ∀i∈cQ n s.b.cur (s.gone.set v true) .inn v,∃x,Vk (GS n s.gone) v s.b i x:=fun i hi=>by
  obtain⟨q1,y,u,m,q2,q3,q4,q5,q6,q7,q8⟩:=hG.hi.row hv hi
  have a6:=pG.1 q4
  rw[oW (by rw[hG.gone];exact hv)] at a6
  exact⟨y,q1,q2,q8,fun hh=>a6 (.inr (by have:=hh.2;rw[q7,Int.toNat_natCast] at this;exact this)),fun hh=>a6 (.inl (by omega))⟩
 obtain⟨⟨⟨k',hk'⟩,b2,b3⟩,a2,a1⟩:=BI.all a3 hG.hi h a7 hO _ s.b ⟨⟨0,Bj.zero hC hG.hi⟩,fun hh=>hh,fun i x hx=>by
  obtain⟨l,hl⟩:=h.arc i x hx
  exact⟨l,hl.mono (fun _ hh=> .inr hh) (fun _ _ hh=>hh)⟩⟩ hN
 have a0: ∀{z:Int},GS n (s.gone.set v true) z↔z=((v:Nat):Int)\/GS n s.gone z:=Yr hv hG.gone
 refine⟨⟨fun i x hx=> ?_,fun{u w m l} hu hw hwk hl hin=> ?_⟩,a2,a1⟩
 ·obtain⟨l,hl⟩:=b3 i x hx
  exact⟨l,hl.mono (fun _ hh=>a0.2 hh) (fun _ _ hh=>hh)⟩
 ·have a4: ¬(u=((v:Nat):Int)\/GS n s.gone u):=fun hh=>hu (a0.2 hh)
  have a5: ¬(w=((v:Nat):Int)\/GS n s.gone w):=fun hh=>hw (a0.2 hh)
  rcases hwk.red a3 hl (fun z hz=>a0.1 (hin z hz)) with⟨l',q1,q2,q3,q4⟩|⟨l1,l2,q1,q2,q3,q4,q5,q6,q7⟩
  ·exact(b2 (h.least (fun hh=>a4 (.inr hh)) (fun hh=>a5 (.inr hh)) q2 q1 q4)).le q3
  ·obtain⟨i,x,c1,c2,c3,c4,c5,c6,c7⟩:=h.least (fun hh=>a4 (.inr hh)) a7 q3 q1 q5
   obtain⟨o,y,d1,d2,d3,d4,d5,d6,d7⟩:=h.least a7 (fun hh=>a5 (.inr hh)) q4 q2 q6
   obtain⟨r1,r2,r3,_⟩:=q3.range a3 q1
   obtain⟨r4,r5,_⟩:=q4.range a3 q2
   have hi:i∈cQ n s.b.cur (s.gone.set v true) .inn v:=by
    refine zQ (x:=u.toNat) (k:=m.toNat) (by omega) ?_ (by omega) ?_ (by omega)
    ·rw[pG,oW (by rw[hG.gone];exact hv)]
     rintro(e|e)
     ·exact a4 (.inl (by omega))
     ·exact a4 (.inr ⟨r1,e⟩)
    ·rw[Zp,Int.toNat_of_nonneg r1.1,Int.toNat_of_nonneg r3.1];exact c1
   have ho:o∈cQ n s.b.cur s.gone .out v:=by
    refine zQ (x:=w.toNat) (k:=m.toNat) (by omega) ?_ (by omega) ?_ (by omega)
    ·rw[pG]
     exact fun e=>a5 (.inr ⟨r5,e⟩)
    ·rw[Wk,Int.toNat_of_nonneg r5.1,Int.toNat_of_nonneg r3.1];exact d1
   have:=a1 i hi o ho x y c3 d3 (by rw[d6];exact fun e=>a5 (.inl e)) (by rw[c7,d7])
   rw[c5,d6,c7] at this
   exact this.le (by omega)
theorem Gc{n:Nat}{C:Int}{es:List E4}(a0:iQ n es)(hC:2147483647<=C): ∀(l:List Int) (s:HB),HI n C s->
  HI n C (l.foldl (eL n es) s)/\(∀{u w m c:Int},kS n s u w m c->kS n (l.foldl (eL n es) s) u w m c)/\(∀i∈l,∀e,i≠ -1->es[i.toNat]?=some e->kS n (l.foldl (eL n es) s) e.f e.t e.m e.c)/\(∀x∈(l.foldl (eL n es) s).arcs,x∈s.arcs\/ ∃i e,i∈l/\i≠ -1/\es[i.toNat]?=some e/\x=iJ i e):=by
 intro l
 induction l with
 |nil=>intro s h;exact⟨h,fun hh=>hh,fun i hi=>(by cases hi),fun x hx=> .inl hx⟩
 |cons i l ih=>
  intro s h
  rw[List.foldl_cons]
  have h1:HI n C (eL n es s i)/\(∀{u w m c:Int},kS n s u w m c->kS n (eL n es s i) u w m c)/\(∀e,i≠ -1->es[i.toNat]?=some e->kS n (eL n es s i) e.f e.t e.m e.c)/\(∀x∈(eL n es s i).arcs,x∈s.arcs\/ ∃e,i≠ -1/\es[i.toNat]?=some e/\x=iJ i e):=by
   unfold eL
   cases hi:i==(-1:Int) with
   |true=>exact⟨h,fun hh=>hh,fun e hne=>absurd (beq_iff_eq.1 hi) hne,fun x hx=> .inl hx⟩
   |false=>
    rw[beq_eq_false_iff_ne] at hi
    simp only [cond_false]
    cases he:es[i.toNat]? with
    |none=>exact⟨h,fun hh=>hh,fun e _ hne=>(by cases hne),fun x hx=> .inl hx⟩
    |some e=>
     obtain⟨q1,q2,q3,q4⟩:=a0 e (xAh he)
     have hA:Aok n (iJ i e):=⟨q1,q2,q3⟩
     refine⟨h.offer q1 q2 q3 ⟨q4.1,Int.le_trans q4.2 hC⟩,fun hh=>hh.offer h hA,fun e' _ he'=> ?_,fun x hx=> ?_⟩
     ·cases he'
      exact Cz h hA
     ·replace hx:x∈(fO n s (iJ i e)).arcs:=hx
      unfold fO at hx
      cases hq:dM (cU s.arcs) (aX s.cur (gO n (iJ i e))) (iJ i e).c<;>rw[hq] at hx
      ·exact .inl hx
      ·rcases List.mem_append.1 hx with hx|hx
       ·exact .inl hx
       ·exact .inr ⟨e,hi,rfl,List.mem_singleton.1 hx⟩
  obtain⟨a1,a2,a3,a4⟩:=h1
  obtain⟨b1,b2,b3,b4⟩:=ih _ a1
  refine⟨b1,fun hh=>b2 (a2 hh),fun j hj e hne he=> ?_,fun x hx=> ?_⟩
  ·rcases List.mem_cons.1 hj with rfl|hj
   ·exact b2 (a3 e hne he)
   ·exact b3 j hj e hne he
  ·rcases b4 x hx with hx|⟨j,e,q1,q2⟩
   ·rcases a4 x hx with hx|⟨e,q1⟩
    ·exact .inl hx
    ·exact .inr ⟨i,e,List.mem_cons_self ..,q1⟩
   ·exact .inr ⟨j,e,List.mem_cons_of_mem _ q1,q2⟩
theorem Kz{n:Nat}{es:List E4}(a1:iQ n es)(i:Nat): ∀(j:Nat) (e:E4),j<i->es[j]?=some e-> ∃(k:Int) (e':E4),(cS n es i)[Ey n e]?=some k/\0<=k/\es[k.toNat]?=some e'/\(e'.c<e.c\/e'.c=e.c/\k<=j):=by
 induction i with
 |zero=>intro j e hj;omega
 |succ i ih=>
  intro j e hj he
  unfold cS
  cases hi:es[i]? with
  |none=>
   have:=List.getElem?_eq_none_iff.1 hi
   have:=(xAg.1 he).1
   exact ih j e (by omega) he
  |some d=>
   simp only
   have old:j<i-> ∃(k:Int) (e':E4),(cS n es i)[Ey n e]?=some k/\0<=k/\es[k.toNat]?=some e'/\(e'.c<e.c\/e'.c=e.c/\k<=j):=fun hji=>ih j e hji he
   have hd:=a1 d (xAh hi)
   have hp:=iP hd.1 hd.2.1 hd.2.2.1
   have hk:Ey n d<(cS n es i).length:=by rw[qG];unfold Ey;omega
   cases hq:dM (dS es) (aX (cS n es i) (Ey n d)) d.c with
   |false=>
    simp only [cond_false]
    by_cases hji:j<i
    ·exact old hji
    ·have a0:j=i:=by omega
     subst a0
     rw[hi] at he
     cases he
     unfold dM at hq
     simp only [Bool.or_eq_false_iff,beq_eq_false_iff_ne,decide_eq_false_iff_not] at hq
     rcases mG n es j _ _ (gI hk) with h1|⟨h1,h2,e',h3,h4⟩
     ·exact absurd h1 hq.1
     ·have ec:=tK h3
      rw[ec] at hq
      exact⟨_,e',gI hk,h1,h3,by omega⟩
   |true=>
    simp only [cond_true]
    by_cases hkk:Ey n d=Ey n e
    ·rw[<-hkk,List.getElem?_set_self hk]
     refine⟨_,d,rfl,by omega,by rw[Int.toNat_natCast];exact hi,?_⟩
     by_cases hji:j<i
     ·obtain⟨k,e',q1,q2,q3,q4⟩:=old hji
      unfold dM at hq
      have ec:aX (cS n es i) (Ey n d)=k:=by unfold aX;rw[hkk,q1];rfl
      rw[ec,tK q3] at hq
      simp only [Bool.or_eq_true,beq_iff_eq,decide_eq_true_eq] at hq
      omega
     ·have a0:j=i:=by omega
      subst a0
      rw[hi] at he
      cases he
      exact .inr ⟨rfl,by omega⟩
    ·rw[List.getElem?_set_ne hkk]
     by_cases hji:j<i
     ·exact old hji
     ·have a0:j=i:=by omega
      subst a0
      rw[hi] at he
      cases he
      exact absurd rfl hkk
theorem Wx{n:Nat}{es:List E4}(hes:iQ n es){e e':E4}(h:e∈es)(h':e'∈es)(ha:Ey n e=Ey n e'):e.f=e'.f/\e.t=e'.t/\e.m=e'.m:=by
 obtain⟨a1,a2,a3,_⟩:=hes e h
 obtain⟨b1,b2,b3,_⟩:=hes e' h'
 have:=iP a1 a2 a3
 have:=iP b1 b2 b3
 exact Ea a1 a2 a3 b1 b2 b3 (by unfold Ey at ha;omega)
theorem Nm{n:Nat}{es:List E4}(a0:iQ n es): ∀x∈(Cj n es).arcs,∃i e,0<=i/\es[i.toNat]?=some e/\x=iJ i e/\i∈cS n es es.length:=fun x hx=>by
 obtain⟨_,_,_,h4⟩:=Gc (C:=2147483647) a0 (by omega) (cS n es es.length) ⟨[],kN n⟩ (HI.zero n _)
 rcases h4 x hx with hx|⟨i,e,q1,q2,q3,q4⟩
 ·cases hx
 ·obtain⟨k,hk⟩:=List.getElem?_of_mem q1
  rcases mG n es _ k i hk with h|⟨h,_⟩
  ·exact absurd h q2
  ·exact⟨i,e,h,q3,q4,q1⟩
theorem SP.begin{n:Nat}{es:List E4}(a0:iQ n es){G:Int->Prop}(hG: ∀z,¬G z):SP n es G (Cj n es):=by
 refine⟨fun i x hx=> ?_,fun{u w m l} _ _ hwk hl hin=> ?_⟩
 ·obtain⟨j,e,q1,q2,q3,_⟩:=Nm a0 x (xAh hx)
  subst q3
  exact⟨[j],.one (x:=iJ j e) hx q1,by simp,⟨q1,e,q2,rfl,rfl,rfl⟩,by show dS es j+0=e.c;rw[tK q2];omega,fun z hz=>(by cases hz),List.nodup_nil,.inl ⟨e,q1,q2,rfl⟩⟩
 ·cases l with
  |nil=>exact absurd rfl hl
  |cons i l=>
   cases l with
   |cons j l=>exact absurd (hin _ (by rw[lP es i (by simp)];exact List.mem_cons_self ..)) (hG _)
   |nil=>
    obtain⟨h1,e,h2,rfl,rfl,h5⟩:=hwk
    cases h5
    obtain⟨_,_,h3,_⟩:=Gc (C:=2147483647) a0 (by omega) (cS n es es.length) ⟨[],kN n⟩ (HI.zero n _)
    obtain⟨k,e',q1,q2,q3,q4⟩:=Kz a0 es.length i.toNat e (xAg.1 h2).1 h2
    have:=h3 k (xAh q1) e' (by omega) q3
    rcases mG n es _ _ k q1 with h|⟨_,_,e'',r1,r2⟩
    ·omega
    ·rw[q3] at r1
     cases r1
     obtain⟨p1,p2,p3⟩:=Wx a0 (xAh q3) (xAh h2) r2
     rw[p1,p2,p3] at this
     refine this.le ?_
     show _<=dS es i+0
     rw[tK h2]
     omega
theorem SP.go{n:Nat}{es:List E4}{l:List Int}(a0:iQ n es)(hl: ∀v∈l,0<=v/\v<n)(a2:l.Nodup): ∀i,i<=l.length->SP n es (GS n (cV n es l i).gone) (cV n es l i).b:=by
 intro i
 induction i with
 |zero=>
  intro _
  refine SP.begin a0 fun z hz=> ?_
  have h1:cH (List.replicate n false) z.toNat=true:=hz.2
  unfold cH at h1
  rw[List.getElem?_replicate,if_pos (by have:=hz.1;omega)] at h1
  cases h1
 |succ i ih=>
  intro hi
  have e:=xAe (show i<l.length by omega)
  have hv:=hl _ (List.getElem_mem (show i<l.length by omega))
  have hR:=RI.go a0 hl i (by omega)
  have hG:=HG.go a0 hl i (by omega)
  have a3:cH (cV n es l i).gone l[i].toNat=false:=by
   rw[pG,hR.gone _ (by omega)]
   rintro⟨j,hj,hh⟩
   rw[Int.toNat_of_nonneg hv.1,<-e] at hh
   have:=(List.getElem?_inj (by omega) a2).1 hh
   omega
  unfold cV
  rw[e]
  simp only
  have a1:HG n (2147483647*2^i) (n*n*5+i*(25*n*n)) {cV n es l i with rank:=(cV n es l i).rank.set l[i].toNat i}:=⟨hG.hi,hG.len,hG.gone,by simpa using hG.rank,hG.up,hG.down⟩
  have hC:(0:Int)<=2147483647*2^i:=by have:(0:Int)<=2^i:=Int.pow_nonneg (by omega);omega
  exact(SP.leave (s:={cV n es l i with rank:=(cV n es l i).rank.set l[i].toNat i}) a0 hC a1 (by omega) a3 (ih (by omega))).1
end Go.Am
end

noncomputable section
namespace Go.Am
open Go
set_option linter.unusedVariables false
def kD(rank:List Int)(u:Int):Int:=(rank[u.toNat]?).getD 0
def Fb(rank:List Int)(u v:Int):Bool:=decide (kD rank u<0)||(decide (0<=kD rank v)&&decide (kD rank v<kD rank u))
def lAt(l:List Int)(i:Int):Int:=(l[i.toNat]?).getD 0
def mS(l:List Int)(y:A7):Int:=if y.e= -1 then lAt l y.a+lAt l y.b else 1
def fM(arcs:List A7):Nat->List Int
 |0=> []
 |i+1=>fM arcs i++ [match arcs[i]? with|some y=>mS (fM arcs i) y|none=>0]
theorem gF(arcs:List A7): ∀i,(fM arcs i).length=i
 |0=>rfl
 |i+1=>by unfold fM;rw[List.length_append,gF arcs i];rfl
theorem lR(arcs:List A7)(i:Nat): ∀j,j<i->(fM arcs i)[j]?=(fM arcs (j+1))[j]?:=by
 induction i with
 |zero=>intro j hj;omega
 |succ i ih=>
  intro j hj
  by_cases e:j=i
  ·rw[e]
  ·have h1:(fM arcs (i+1))[j]?=(fM arcs i)[j]?:=by
    conv=>lhs;unfold fM
    rw[List.getElem?_append_left (by rw[gF];omega)]
   rw[h1]
   exact ih j (by omega)
theorem jY{arcs:List A7}{i:Nat}{y:A7}(h:arcs[i]?=some y):(fM arcs (i+1))[i]?=some (mS (fM arcs i) y):=by
 conv=>lhs;unfold fM
 rw[List.getElem?_append_right (by rw[gF];exact Nat.le_refl _),gF,Nat.sub_self,h]
 rfl
theorem Tk{arcs:List A7}{i:Nat}{l:List Int}(h:Un arcs i l): ∀k,i<k->(fM arcs k)[i]?=some ((l.length:Nat):Int):=by
 induction h with
 |one h1 h2=>
  intro k hk
  rw[lR arcs k _ hk,jY h1]
  unfold mS
  rw[if_neg (by omega)];rfl
 |two h1 h2 h3 h4 h5 h6 _ _ i1 i2=>
  intro k hk
  rw[lR arcs k _ hk,jY h1]
  unfold mS lAt
  rw[if_pos h2,h3,h4,Int.toNat_natCast,Int.toNat_natCast,i1 _ h5,i2 _ h6]
  simp
structure Rn(n:Nat)(rank:List Int):Prop where
 len:rank.length=n
 ex: ∃K:Nat,K<=n/\(∀(u:Nat) (r:Int),rank[u]?=some r->r= -1\/(0<=r/\r<((K:Nat):Int)))/\(∀(u v:Nat) (r:Int),rank[u]?=some r->rank[v]?=some r->r= -1\/u=v)/\(∀j:Nat,j<K-> ∃u:Nat,rank[u]?=some ((j:Nat):Int))
structure ArcOk(x:IX)(i:Nat)(y:A7):Prop where
 f:0<=y.f/\y.f<x.n
 t:0<=y.t/\y.t<x.n
 m:0<=y.m/\y.m<5
 c:0<=y.c/\y.c<=4398046511104
 form:(∃e,0<=y.e/\x.es[y.e.toNat]?=some e/\y=iJ y.e e)\/(∃j k p q,j<i/\k<i/\x.arcs[j]?=some p/\x.arcs[k]?=some q/\y=mK p q ((j:Nat):Int) ((k:Nat):Int)/\p.m=q.m/\p.t=q.f)
structure Pu(x:IX)(v:Nat)(r:List Int):Prop where
 nd:r.Nodup
 all: ∀a∈r,0<=a/\ ∃y,x.arcs[a.toNat]?=some y/\y.f=((v:Nat):Int)/\(0<=y.t/\y.t<x.n)/\(y.t=((v:Nat):Int)\/Fb x.rank y.t ((v:Nat):Int)=true)
structure Pt(x:IX)(v:Nat)(r:List Int):Prop where
 nd:r.Nodup
 all: ∀a∈r,0<=a/\ ∃y,x.arcs[a.toNat]?=some y/\y.t=((v:Nat):Int)/\(0<=y.f/\y.f<x.n)/\y.f≠((v:Nat):Int)/\0<=kD x.rank ((v:Nat):Int)/\Fb x.rank y.f ((v:Nat):Int)=true
structure GX(x:IX):Prop where
 ck:fC ((x.n:Nat):Int) x.es=true
 rk:Rn x.n x.rank
 ul:x.up.length=x.n
 dl:x.down.length=x.n
 al:x.arcs.length<=300000
 arc: ∀(i:Nat) (y:A7),x.arcs[i]?=some y->ArcOk x i y
 ln: ∀(i:Nat) (k:Int),(fM x.arcs x.arcs.length)[i]?=some k->1<=k/\k<=1000
 up: ∀(v:Nat) (r:List Int),x.up[v]?=some r->Pu x v r
 dn: ∀(v:Nat) (r:List Int),x.down[v]?=some r->Pt x v r
def cG(n:Nat)(rank:List Int):Nat->List Bool
 |0=>List.replicate n false
 |i+1=>match rank[i]? with
  |some r=>if r= -1 then cG n rank i else(cG n rank i).set r.toNat true
  |none=>cG n rank i
def Bf(rank:List Int)(i:Nat):Nat:=((rank.take i).filter (fun r=>decide (r≠ -1))).length
theorem kE(n:Nat)(rank:List Int): ∀i,(cG n rank i).length=n
 |0=>by simp [cG]
 |i+1=>by
  unfold cG
  split
  ·split
   ·exact kE n rank i
   ·rw[List.length_set];exact kE n rank i
  ·exact kE n rank i
theorem Th{rank:List Int}{i:Nat}{r:Int}(h:rank[i]?=some r):Bf rank (i+1)=Bf rank i+(if r= -1 then 0 else 1):=by
 unfold Bf
 obtain⟨h1,h2⟩:=xAg.1 h
 rw[List.take_succ_eq_append_getElem h1,List.filter_append,List.length_append,h2]
 congr 1
 by_cases e:r= -1
 ·subst e;simp
 ·simp [e]
theorem Ij(rank:List Int)(i:Nat):Bf rank i<=rank.length:=Nat.le_trans (List.length_filter_le _ _) (by rw[List.length_take];omega)
theorem yB{n:Nat}{rank:List Int}(hr: ∀(u:Nat) (r:Int),rank[u]?=some r->r= -1\/(0<=r/\r<((n:Nat):Int)))(i:Nat): ∀j:Nat,j<n->((cG n rank i)[j]?=some true↔ ∃u,u<i/\rank[u]?=some ((j:Nat):Int)):=by
 induction i with
 |zero=>
  intro j hj
  unfold cG
  rw[List.getElem?_replicate,if_pos hj]
  constructor
  ·intro h;cases h
  ·rintro⟨u,hu,_⟩;omega
 |succ i ih=>
  intro j hj
  have old:(∃u,u<i/\rank[u]?=some ((j:Nat):Int))-> ∃u,u<i+1/\rank[u]?=some ((j:Nat):Int):=fun⟨u,h1,h2⟩=>⟨u,by omega,h2⟩
  have back:(rank[i]?≠some ((j:Nat):Int))->(∃u,u<i+1/\rank[u]?=some ((j:Nat):Int))-> ∃u,u<i/\rank[u]?=some ((j:Nat):Int):=fun hne ⟨u,h1,h2⟩=>by
   by_cases e:u=i
   ·subst e;exact absurd h2 hne
   ·exact⟨u,by omega,h2⟩
  unfold cG
  split
  ·rename_i r hri
   split
   ·rename_i e
    subst e
    rw[ih j hj]
    exact⟨old,back (by rw[hri];intro h;have:=Option.some.inj h;omega)⟩
   ·rename_i e
    have hb:=hr i r hri
    rw[List.getElem?_set]
    by_cases ej:r.toNat=j
    ·rw[if_pos ej,if_pos (by rw[kE];omega)]
     exact⟨fun _=>⟨i,by omega,by rw[hri];congr 1;omega⟩,fun _=>rfl⟩
    ·rw[if_neg ej,ih j hj]
     exact⟨old,back (by rw[hri];intro h;have:=Option.some.inj h;omega)⟩
  ·rename_i hri
   rw[ih j hj]
   exact⟨old,back (by rw[hri];intro h;cases h)⟩
theorem Rn.k_le{n:Nat}{rank:List Int}{K:Nat}(h1: ∀(u:Nat) (r:Int),rank[u]?=some r->r= -1\/(0<=r/\r<((K:Nat):Int)))(h2: ∀(u v:Nat) (r:Int),rank[u]?=some r->rank[v]?=some r->r= -1\/u=v):Bf rank rank.length<=K:=by
 unfold Bf
 rw[List.take_length]
 have hp:rank.Pairwise (fun a b=>a= -1\/a≠b):=by
  rw[List.pairwise_iff_getElem]
  intro i j hi hj hij
  by_cases e:rank[i]= -1
  ·exact .inl e
  ·refine .inr fun hh=> ?_
   rcases h2 i j rank[i] (xAe hi) (by rw[hh];exact xAe hj) with h|h
   ·exact e h
   ·omega
 have hf:=hp.filter (fun r=>decide (r≠ -1))
 have hn:(rank.filter (fun r=>decide (r≠ -1))).Nodup:=by
  refine hf.imp_of_mem ?_
  intro a b ha _ hab
  have:=(List.mem_filter.1 ha).2
  simp only [ne_eq,decide_not,Bool.not_eq_eq_eq_not,Bool.not_true,decide_eq_false_iff_not] at this
  exact hab.resolve_left this
 refine rD hn fun v hv=> ?_
 obtain⟨hm,a0⟩:=List.mem_filter.1 hv
 obtain⟨u,hu⟩:=List.getElem?_of_mem hm
 simp only [ne_eq,decide_not,Bool.not_eq_eq_eq_not,Bool.not_true,decide_eq_false_iff_not] at a0
 exact(h1 u v hu).resolve_left a0
theorem Rn.seen{n:Nat}{rank:List Int}(h:Rn n rank)(j:Nat)(hj:j<Bf rank n):(cG n rank n)[j]?=some true:=by
 obtain⟨K,hK,h1,h2,h3⟩:=h.ex
 have hk:=Rn.k_le (n:=n) h1 h2
 rw[h.len] at hk
 obtain⟨u,hu⟩:=h3 j (by omega)
 have a0:=(xAg.1 hu).1
 rw[h.len] at a0
 exact(yB (fun u r hr=>(h1 u r hr).imp id fun q=>⟨q.1,by omega⟩) n j (by omega)).2 ⟨u,a0,hu⟩
theorem Rn.fresh{n:Nat}{rank:List Int}(h:Rn n rank){i:Nat}{r:Int}(hi:rank[i]?=some r)(hr:r≠ -1):(0<=r/\r<((n:Nat):Int))/\(cG n rank i)[r.toNat]?=some false:=by
 obtain⟨K,hK,h1,h2,h3⟩:=h.ex
 have hb:=(h1 i r hi).resolve_left hr
 refine⟨⟨hb.1,by omega⟩,?_⟩
 have hl:r.toNat<(cG n rank i).length:=by rw[kE];omega
 have hg:=xAe hl
 rw[hg]
 cases hv:(cG n rank i)[r.toNat] with
 |false=>rfl
 |true=>
  rw[hv] at hg
  obtain⟨u,hu,a0⟩:=(yB (fun u r hr=>(h1 u r hr).imp id fun q=>⟨q.1,by omega⟩) i r.toNat (by omega)).1 hg
  rw[Int.toNat_of_nonneg hb.1] at a0
  rcases h2 u i r a0 hi with e|e
  ·exact absurd e hr
  ·omega
theorem Lb{n:Nat}{w:wV}{v u m u' m':Nat}(hn:0<n)(hm:m<5)(hm':m'<5)(h:bK n w v u m=bK n w v u' m'):u=u'/\m=m':=by
 cases w with
 |out=>simp only [bK] at h;omega
 |inn=>
  simp only [bK] at h
  have e:u*n=u'*n:=by omega
  exact⟨Nat.eq_of_mul_eq_mul_right hn e,by omega⟩
theorem Bu{n:Nat}{C:Int}{s:HB}(h:HI n C s){w:wV}{v x k:Nat}{i:Int}(hv:v<n)(hx:x<n)(hk:k<5)(a0:i≠ -1)(hc:aX s.cur (bK n w v x k)=i): ∃a,s.arcs[i.toNat]?=some a/\gO n a=bK n w v x k:=by
 have hs:=gI (cur:=s.cur) (by rw[h.len];exact uK (w:=w) hv hx hk)
 rw[hc] at hs
 rcases h.cur _ _ hs with e|⟨_,a,e2,e3⟩
 ·exact absurd e a0
 ·exact⟨a,e2,e3⟩
theorem Ow{n:Nat}{C:Int}{s:HB}(h:HI n C s){w:wV}{v u:Nat}(hv:v<n)(hu:u<n): ∀m,m<=5->(gS n s.cur w v u m).Nodup:=by
 intro m
 induction m with
 |zero=>intro _;exact List.nodup_nil
 |succ m ih=>
  intro hm
  unfold gS
  cases hq:aX s.cur (bK n w v u m)==(-1:Int) with
  |true=>rw[cond_true,List.append_nil];exact ih (by omega)
  |false=>
   rw[cond_false]
   refine List.nodup_append.2 ⟨ih (by omega),by simp,fun a ha b hb e=> ?_⟩
   rw[List.mem_singleton] at hb
   obtain⟨h1,k,h2,h3⟩:=Dp ha
   obtain⟨x,e1,e2⟩:=Bu h hv hu (by omega) h1 h3
   have a0:aX s.cur (bK n w v u m)=a:=by rw[<-hb,e]
   obtain⟨y,e3,e4⟩:=Bu h hv hu (by omega) h1 a0
   rw[e1] at e3
   cases e3
   have:=(Lb (by omega) (by omega) (by omega) (e2.symm.trans e4)).2
   omega
theorem tY{n:Nat}{C:Int}{s:HB}(h:HI n C s){g:List Bool}{w:wV}{v:Nat}(hv:v<n): ∀u,u<=n->(eP n s.cur g w v u).Nodup:=by
 intro u
 induction u with
 |zero=>intro _;exact List.nodup_nil
 |succ u ih=>
  intro hu
  unfold eP
  cases cH g u with
  |true=>rw[cond_true,List.append_nil];exact ih (by omega)
  |false=>
   rw[cond_false]
   refine List.nodup_append.2 ⟨ih (by omega),Ow h hv (by omega) 5 (Nat.le_refl _),fun a ha b hb e=> ?_⟩
   subst e
   obtain⟨h1,x,k,h2,_,h4,h5⟩:=Gq ha
   obtain⟨_,k',h6,h7⟩:=Dp hb
   obtain⟨y,e1,e2⟩:=Bu h hv (by omega) h4 h1 h5
   obtain⟨z,e3,e4⟩:=Bu h hv (by omega) h6 h1 h7
   rw[e1] at e3
   cases e3
   have:=(Lb (by omega) h4 h6 (e2.symm.trans e4)).1
   omega
structure RN(s:Ba):Prop where
 up: ∀(v:Nat) (r:List Int),s.up[v]?=some r->r.Nodup
 down: ∀(v:Nat) (r:List Int),s.down[v]?=some r->r.Nodup
theorem zT{l:List (List Int)}{v:Nat}{r:List Int}(h: ∀(v:Nat) (r:List Int),l[v]?=some r->r.Nodup)(hr:r.Nodup): ∀(u:Nat) (q:List Int),(l.set v r)[u]?=some q->q.Nodup:=fun u q hq=>by
 rw[List.getElem?_set] at hq
 split at hq
 ·split at hq
  ·rw[<-Option.some.inj hq];exact hr
  ·cases hq
 ·exact h u q hq
theorem RN.go{n:Nat}{es:List E4}{l:List Int}(a1:iQ n es)(hl: ∀v∈l,0<=v/\v<n): ∀i,i<=l.length->RN (cV n es l i):=by
 intro i
 induction i with
 |zero=>
  intro _
  constructor<;>(intro v r hr;have a0:(List.replicate n ([]:List Int))[v]?=some r:=hr;rw[List.getElem?_replicate] at a0;split at a0<;>cases a0;exact List.nodup_nil)
 |succ i ih=>
  intro hi
  have e:=xAe (show i<l.length by omega)
  have hv:=hl _ (List.getElem_mem (show i<l.length by omega))
  have hG:=HG.go a1 hl i (by omega)
  have h:=ih (by omega)
  unfold cV
  rw[e]
  exact⟨zT h.up (tY hG.hi (by omega) n (Nat.le_refl _)),zT h.down (tY hG.hi (by omega) n (Nat.le_refl _))⟩
theorem RN.end_{n:Nat}{C:Int}{k:Nat}{s:Ba}(hG:HG n C k s)(h:RN s): ∀v,v<=n->RN (eH n s v):=by
 intro v
 induction v with
 |zero=>intro _;exact h
 |succ v ih=>
  intro hv
  obtain⟨e1,e2,_,_,_⟩:=lF n s v
  unfold eH
  cases cH (eH n s v).gone v with
  |true=>exact ih (by omega)
  |false=>
   rw[cond_false,e1,e2]
   exact⟨zT (ih (by omega)).up (tY hG.hi (by omega) n (Nat.le_refl _)),(ih (by omega)).down⟩
def Yn(g:List Bool)(u:Nat):List Nat:=(List.range u).filter (fun x=> !cH g x)
theorem Eg(n:Nat)(cur:List Int)(g:List Bool)(w:wV)(v u:Nat):(eP n cur g w v u).length<=5*(Yn g u).length:=by
 induction u with
 |zero=>simp [eP,Yn]
 |succ u ih=>
  have:=xZ n cur w v u 5
  unfold eP
  unfold Yn at ih⊢
  rw[List.range_succ,List.filter_append,List.length_append,List.length_append]
  cases h:cH g u<;>simp [h]<;>omega
theorem Ub{g:List Bool}{v:Nat}(u:Nat):(Yn (g.set v true) u).length<=(Yn g u).length:=by
 induction u with
 |zero=>exact Nat.le_refl _
 |succ u ih=>
  unfold Yn at ih⊢
  rw[List.range_succ,List.filter_append,List.filter_append,List.length_append,List.length_append]
  have h:cH g u=true->cH (g.set v true) u=true:=fun hx=>by
   unfold cH at hx⊢
   rw[List.getElem?_set]
   split
   ·split<;>rfl
   ·exact hx
  cases h1:cH g u with
  |true=>simp [h h1,h1];exact ih
  |false=>
   cases h2:cH (g.set v true) u<;>simp [h1,h2]<;>omega
theorem aAs{n:Nat}{l:List Int}{i:Nat}{s:Ba}(hl: ∀v∈l,0<=v/\v<((n:Nat):Int))(a2:l.Nodup)(hi:i<=l.length)(h:RI n l i s):(Yn s.gone n).length+i<=n:=by
 have h1:((Yn s.gone n).map (fun x:Nat=>((x:Nat):Int))++l.take i).Nodup:=by
  refine List.nodup_append.2 ⟨?_,(List.take_sublist i l).nodup a2,fun a ha b hb e=> ?_⟩
  ·exact List.Pairwise.map _ (fun a b hab e=>hab (Int.ofNat.inj e)) (List.Nodup.sublist List.filter_sublist List.nodup_range)
  ·subst e
   obtain⟨x,hx,rfl⟩:=List.mem_map.1 ha
   obtain⟨a3,a1⟩:=List.mem_filter.1 hx
   have a4:=List.mem_range.1 a3
   obtain⟨j,hj⟩:=List.getElem?_of_mem hb
   have a0:j<i:=by have:=(xAg.1 hj).1;rw[List.length_take] at this;omega
   rw[List.getElem?_take_of_lt a0] at hj
   rw[(h.gone x a4).2 ⟨j,a0,hj⟩] at a1
   cases a1
 have h2:=rD (n:=n) h1 (fun v hv=>by
  rcases List.mem_append.1 hv with hv|hv
  ·obtain⟨x,hx,rfl⟩:=List.mem_map.1 hv
   have:=List.mem_range.1 (List.mem_filter.1 hx).1
   omega
  ·exact hl v (List.mem_of_mem_take hv))
 rw[List.length_append,List.length_map,List.length_take] at h2
 omega
def gB:Nat->Nat
 |0=>0
 |i+1=>gB i+5*(24-i)*(5*(24-i))
theorem gB_le{i:Nat}(h:i<=24):gB i<=122500:=(by decide: ∀i:Fin 25,gB i<=122500) ⟨i,by omega⟩
theorem Vp{n:Nat}{es:List E4}{l:List Int}(a0:iQ n es)(hl: ∀v∈l,0<=v/\v<((n:Nat):Int))(a1:l.Nodup)(hn:n<=24): ∀i,i<=l.length->(cV n es l i).b.arcs.length<=2880+gB i:=by
 intro i
 induction i with
 |zero=>
  intro _
  have h:=(HG.go a0 hl 0 (Nat.zero_le _)).len
  have e4:n*n*5<=24*24*5:=Nat.mul_le_mul_right _ (Nat.mul_le_mul hn hn)
  show _<=2880+0
  omega
 |succ i ih=>
  intro hi
  have e:=xAe (show i<l.length by omega)
  have hv:=hl _ (List.getElem_mem (show i<l.length by omega))
  have hG:=HG.go a0 hl i (by omega)
  have hC:(0:Int)<=2147483647*2^i:=by have:(0:Int)<=2^i:=Int.pow_nonneg (by omega);omega
  have hng:=aAs hl a1 (show i<=l.length by omega) (RI.go a0 hl i (by omega))
  have h:=ih (by omega)
  unfold cV
  rw[e]
  simp only
  have hm: ∀(g:List Bool) (w:wV),∀k∈cQ n (cV n es l i).b.cur g w l[i].toNat,k.toNat<(cV n es l i).b.arcs.length:=fun g w k hk=>by
   obtain⟨_,a,_,_,e,_⟩:=hG.hi.row (by omega) hk
   exact(xAg.1 e).1
  have hb:(rA n l[i].toNat (cQ n (cV n es l i).b.cur (cV n es l i).gone .out l[i].toNat) (cQ n (cV n es l i).b.cur ((cV n es l i).gone.set l[i].toNat true) .inn l[i].toNat) (cV n es l i).b).arcs.length<=(cV n es l i).b.arcs.length+(0+(cQ n (cV n es l i).b.cur ((cV n es l i).gone.set l[i].toNat true) .inn l[i].toNat).length*(cQ n (cV n es l i).b.cur (cV n es l i).gone .out l[i].toNat).length):=((Bj.zero hC hG.hi).all (v:=l[i].toNat) hG.hi (hm ((cV n es l i).gone.set l[i].toNat true) .inn) (hm (cV n es l i).gone .out)).len
  have l1:(cQ n (cV n es l i).b.cur (cV n es l i).gone .out l[i].toNat).length<=_:=Eg n (cV n es l i).b.cur (cV n es l i).gone .out l[i].toNat n
  have l2:(cQ n (cV n es l i).b.cur ((cV n es l i).gone.set l[i].toNat true) .inn l[i].toNat).length<=_:=Eg n (cV n es l i).b.cur ((cV n es l i).gone.set l[i].toNat true) .inn l[i].toNat n
  have l3:=Ub (g:=(cV n es l i).gone) (v:=l[i].toNat) n
  have l4:=Nat.mul_le_mul (show(cQ n (cV n es l i).b.cur ((cV n es l i).gone.set l[i].toNat true) .inn l[i].toNat).length<=5*(24-i) by omega) (show(cQ n (cV n es l i).b.cur (cV n es l i).gone .out l[i].toNat).length<=5*(24-i) by omega)
  refine Nat.le_trans hb ?_
  show _<=2880+(gB i+5*(24-i)*(5*(24-i)))
  omega
theorem xX{rank:List Int}{u:Int}{r:Int}(h:rank[u.toNat]?=some r):kD rank u=r:=by unfold kD;rw[h];rfl
theorem Ql{n:Nat}{es:List E4}{l:List Int}(a0:iQ n es)(hl: ∀v∈l,0<=v/\v<n)(a1:l.Nodup):Rn n (iH n es l).rank:=by
 have h:=RI.go a0 hl l.length (Nat.le_refl _)
 have hG:=HG.go a0 hl l.length (Nat.le_refl _)
 obtain⟨e1,e2,e3,e4,e5⟩:=lF n (cV n es l l.length) n
 have hF:=RF.of a0 hl a1
 have hr:(iH n es l).rank=(cV n es l l.length).rank:=e3
 refine⟨by rw[hr];exact hG.rank,l.length,rD a1 hl,fun u r hu=> ?_,fun u v r hu hv=> ?_,fun j hj=> ?_⟩
 ·rw[hr] at hu
  rcases h.rk u r hu with⟨q,_⟩|⟨j,q1,_,q2⟩
  ·exact .inl q
  ·exact .inr (by omega)
 ·rw[hr] at hu hv
  rcases h.rk u r hu with⟨q,_⟩|⟨j,q1,q2,q3⟩
  ·exact .inl q
  ·rcases h.rk v r hv with⟨q,_⟩|⟨j',p1,p2,p3⟩
   ·exact .inl q
   ·have e:j=j':=by omega
    subst e
    rw[q2] at p2
    have:=Option.some.inj p2
    exact .inr (by omega)
 ·have e:=xAe hj
  exact⟨l[j].toNat,hF.rk j _ e⟩
theorem Qk{n:Nat}{es:List E4}(a2:fC ((n:Nat):Int) es=true)(hn:n<=24):GX (Kt (n,es)):=by
 have a0:=rW a2
 have hl:=iZ a2
 have a3:=sA a2
 have a5:=rZ a2
 obtain⟨_,s2,s3,s4,s5⟩:=zJ a0 hl a5 hn
 have hG:=HG.go a0 hl (bW n es).length (Nat.le_refl _)
 have hS:=SP.go a0 hl a3 (bW n es).length (Nat.le_refl _)
 have hN:=RN.end_ hG (RN.go a0 hl (bW n es).length (Nat.le_refl _)) n (Nat.le_refl _)
 have hF:=RF.of a0 hl a3
 obtain⟨e1,e2,e3,e4,e5⟩:=lF n (cV n es (bW n es) (bW n es).length) n
 have eb:(iH n es (bW n es)).b=(cV n es (bW n es) (bW n es).length).b:=e1
 have a6:(iH n es (bW n es)).b.arcs.length<=300000:=by
  rw[eb]
  have:=Vp a0 hl a3 hn (bW n es).length (Nat.le_refl _)
  have:=gB_le (show(bW n es).length<=24 by omega)
  omega
 have a1: ∀(i:Nat) (y:A7),(iH n es (bW n es)).b.arcs[i]?=some y-> ∃l,AF n es (GS n (cV n es (bW n es) (bW n es).length).gone) (iH n es (bW n es)).b.arcs i y l:=by rw[eb];exact hS.arc
 unfold Kt
 simp only
 generalize hH:iH n es (bW n es)=H at*
 refine⟨a2,by show Rn n H.rank;rw[<-hH];exact Ql a0 hl a3,s3,s4,a6,fun i y hy=> ?_,fun i k hk=> ?_,fun v r hr=>⟨?_,fun a ha=> ?_⟩,fun v r hr=>⟨?_,fun a ha=> ?_⟩⟩
 ·obtain⟨l,h⟩:=a1 i y hy
  obtain⟨r1,r2,r3,_⟩:=h.wk.range a0 h.ne
  have c0:=zY a0 l
  have c1:=Pb a0 l
  have hll:=h.len a0
  rw[h.cost] at c0 c1
  exact⟨r1,r2,r3,⟨c0,by omega⟩,h.form⟩
 ·have hi:i<H.b.arcs.length:=by have:=(xAg.1 hk).1;rw[gF] at this;exact this
  obtain⟨l,h⟩:=a1 i _ (xAe hi)
  have:=Tk h.un H.b.arcs.length hi
  rw[show(Tg n es H).arcs=H.b.arcs from rfl,this] at hk
  have:=Option.some.inj hk
  have:=h.len a0
  have:l.length≠0:=fun e=>h.ne (List.length_eq_zero_iff.1 e)
  omega
 ·rw[<-hH] at hr;exact hN.up v r hr
 ·have hv:v<n:=by have:=(xAg.1 hr).1;rw[show(Tg n es H).up=H.up from rfl,s3] at this;exact this
  obtain⟨rv,a4,hP⟩:=hF.up v r hv hr
  obtain⟨h0,y,ru,q1,q2,q3,q4,q5,q6⟩:=hP a ha
  refine⟨h0,y,q1,q2,q3,?_⟩
  rcases q5 with q5|q5
  ·exact .inl q5
  ·refine .inr ?_
   unfold Fb
   rw[show(Tg n es H).rank=H.rank from rfl,xX q4,xX (u:=((v:Nat):Int)) (by rw[Int.toNat_natCast];exact a4)]
   simp only [Bool.or_eq_true,Bool.and_eq_true,decide_eq_true_eq]
   omega
 ·rw[<-hH] at hr;exact hN.down v r hr
 ·have hv:v<n:=by have:=(xAg.1 hr).1;rw[show(Tg n es H).down=H.down from rfl,s4] at this;exact this
  obtain⟨rv,a4,hP⟩:=hF.down v r hv hr
  obtain⟨h0,y,ru,q1,q2,q3,q4,q5,q6⟩:=hP a ha
  have ev:kD (Tg n es H).rank ((v:Nat):Int)=rv:=xX (by rw[Int.toNat_natCast];exact a4)
  refine⟨h0,y,q1,q2,q4,fun e=> ?_,by rw[ev];exact q3,?_⟩
  ·rw[e,Int.toNat_natCast,a4] at q5
   have:=Option.some.inj q5
   omega
  ·unfold Fb
   rw[ev,show(Tg n es H).rank=H.rank from rfl,xX q5]
   simp only [Bool.or_eq_true,Bool.and_eq_true,decide_eq_true_eq]
   omega
end Go.Am
end

noncomputable section
namespace Go.Am
open Go
set_option linter.unusedVariables false
inductive vJ(arcs:List A7):List Nat->List Int->Prop
 |nil:vJ arcs [] []
 |snoc {W:List Nat} {L l:List Int} {i:Nat}:vJ arcs W L->Un arcs i l->vJ arcs (W++ [i]) (l++L)
theorem Un.ne{arcs:List A7}{i:Nat}{l:List Int}(h:Un arcs i l):1<=l.length:=by
 induction h with
 |one=>simp
 |two _ _ _ _ _ _ _ _ i1 i2=>rw[List.length_append];omega
theorem vJ.len{arcs:List A7}{W:List Nat}{L:List Int}(h:vJ arcs W L):W.length<=L.length:=by
 induction h with
 |nil=>simp
 |snoc _ hu ih=>have:=hu.ne;rw[List.length_append,List.length_append];simp;omega
theorem vJ.none{arcs:List A7}{W:List Nat}{L:List Int}(h:vJ arcs W L)(hW:W= []):L= []:=by
 cases h with
 |nil=>rfl
 |snoc h hu=>simp at hW
theorem vJ.last{arcs:List A7}{W:List Nat}{L:List Int}(h:vJ arcs W L)(hW:W≠ []): ∃W' i l L',W=W'++ [i]/\L=l++L'/\vJ arcs W' L'/\Un arcs i l:=by
 cases h with
 |nil=>exact absurd rfl hW
 |snoc h hu=>exact⟨_,_,_,_,rfl,rfl,h,hu⟩
theorem Un.open{arcs:List A7}{i:Nat}{l:List Int}(h:Un arcs i l):(∃x,arcs[i]?=some x/\0<=x.e/\l= [x.e])\/ ∃(j k:Nat) (x:A7) (l1 l2:List Int),arcs[i]?=some x/\x.e= -1/\x.a=((j:Nat):Int)/\x.b=((k:Nat):Int)/\j<i/\k<i/\l=l1++l2/\Un arcs j l1/\Un arcs k l2:=by
 cases h with
 |one h1 h2=>exact .inl ⟨_,h1,h2,rfl⟩
 |two h1 h2 h3 h4 h5 h6 h7 h8=>exact .inr ⟨_,_,_,_,_,h1,h2,h3,h4,h5,h6,rfl,h7,h8⟩
theorem Un.lt{arcs:List A7}{i:Nat}{l:List Int}(h:Un arcs i l):i<arcs.length:=by
 cases h with
 |one h1=>exact(xAg.1 h1).1
 |two h1=>exact(xAg.1 h1).1
structure UpS where
 E:List Int
 W:List Nat
 L:List Int
structure Fa(arcs:List A7)(l0:List Int)(t:Nat)(s:UpS):Prop where
 pend:vJ arcs s.W s.L
 all:s.E++s.L=l0
 steps:2*s.L.length+t+1=2*l0.length+s.W.length
theorem Fa.first{arcs:List A7}{i:Nat}{l:List Int}(h:Un arcs i l):Fa arcs l 0 ⟨[],[i],l⟩:=
 ⟨by simpa using vJ.snoc vJ.nil h,rfl,by simp⟩
theorem Fa.go{arcs:List A7}{l0:List Int}{t:Nat}{s:UpS}(h:Fa arcs l0 t s)(ht:t<2*l0.length-1):
  ∃(W:List Nat) (i:Nat) (y:A7),s.W=W++ [i]/\i<arcs.length/\arcs[i]?=some y/\((0<=y.e/\ ∃L,Fa arcs l0 (t+1) ⟨s.E++ [y.e],W,L⟩)\/
   (y.e= -1/\ ∃j k L,y.a=((j:Nat):Int)/\y.b=((k:Nat):Int)/\j<i/\k<i/\Fa arcs l0 (t+1) ⟨s.E,W++ [k,j],L⟩/\s.E.length+(W.length+2)<=l0.length)):=by
 obtain⟨hp,ha,hs⟩:=h
 have hlen:=hp.len
 have hW:s.W≠ []:=by
  intro e
  have h0:=hp.none e
  rw[h0,e] at hs
  simp at hs
  omega
 obtain⟨W,i,l,L',e1,e2,a0,hu⟩:=hp.last hW
 rw[e1] at hs
 rw[e2] at hs ha
 have a2:(l++L').length=l.length+L'.length:=List.length_append
 have a1:s.E.length+(l.length+L'.length)=l0.length:=by rw[<-ha];simp
 rw[a2] at hs
 simp only [List.length_append,List.length_singleton] at hs
 refine⟨W,i,?_⟩
 rcases hu.open with⟨x,h1,h2,h3⟩|⟨j,k,x,l1,l2,h1,h2,h3,h4,h5,h6,h7,h8,h9⟩
 ·refine⟨x,e1,hu.lt,h1,.inl ⟨h2,L',a0,?_,?_⟩⟩
  ·rw[<-ha,h3];simp
  ·rw[h3] at hs;simp at hs;simp only;omega
 ·refine⟨x,e1,hu.lt,h1,.inr ⟨h2,j,k,l1++(l2++L'),h3,h4,h5,h6,⟨?_,?_,?_⟩,?_⟩⟩
  ·have:=vJ.snoc (vJ.snoc a0 h9) h8
   simpa using this
  ·simp only;rw[<-ha,h7];simp
  ·rw[h7] at hs;simp at hs;simp only [List.length_append,List.length_cons,List.length_nil];omega
  ·have hpl:=a0.len
   have n1:=h8.ne
   have n2:=h9.ne
   rw[h7,List.length_append] at a1
   omega
theorem Fa.done{arcs:List A7}{l0:List Int}{s:UpS}(hl:1<=l0.length)(h:Fa arcs l0 (2*l0.length-1) s):s.W= []/\s.E=l0:=by
 obtain⟨hp,ha,hs⟩:=h
 have hlen:=hp.len
 have h1:s.L.length=0:=by omega
 have h2:s.W.length=0:=by omega
 rw[List.length_eq_zero_iff.1 h1,List.append_nil] at ha
 exact⟨List.length_eq_zero_iff.1 h2,ha⟩
theorem Ch{P:Program}{sT xT elem:TypeId}{M:aB}{a bx o c w y len n:Nat}{blk b0:aU}{new old:List Value}(hn:0<n)(a5:Aj P elem=false)(hs:P.underlying sT=some (.slice elem))(hx:P.underlying xT=some (.slice elem))(he:elemOf P elem=some (w,y,true))(hw:0<w)(hy:y<=1024)(hlen:len+n<1073741824)
  (hg:M.get bx=some blk) (ht:cP (n*w) (blk.cs.drop o)=some new) (hc:new.all isCell=true) (hl:new.length=n*w) (h0:M.get a=some b0) (a2:cP (len*w) b0.cs=some old) (a3:b0.elem=elem) (a4:b0.esz=w) (a7:b0.wf=0) (a1:b0.app=true):
  cX P [sT,xT] (.slice (some ⟨a,0,none⟩) len len) (.slice (some ⟨bx,o,none⟩) n c) M=some (2,.val (.slice (some ⟨M.next,0,none⟩) (len+n) (len+n)),(M.put a none).alloc ⟨old++new,elem,w,0,true⟩):=by
 unfold elemOf at he
 cases hi:P.info? elem with
 |none=>rw[hi] at he;cases he
 |some e=>
  rw[hi] at he
  simp only [Option.map_some,Option.some.injEq] at he
  have hr:=pM (n:=len+n) he hw hy (by omega)
  simp only [Prod.mk.injEq] at he
  obtain⟨rfl,rfl,_⟩:=he
  have a6:Nat.beq n 0=false:=by
   cases hb:Nat.beq n 0
   ·rfl
   ·have:=xBa hb;omega
  unfold cX
  have a0:cP (len*e.size) (b0.cs.drop 0)=some old:=by rw[List.drop_zero];exact a2
  simp only [hs,hx,hi,nW,jX,iV,hg,range,ht,hr,hc,hl,h0,a0,a4,a3,a7,a1,a5,a6]
  simp
  have h1:len.beq len=true:=Nat.beq_refl len
  rw[Nat.ble_eq_true_of_le (Nat.zero_le _)]
  rfl
theorem Hc{P:Program}{t elem:TypeId}{M:aB}{b n c m:Nat}{hi:Int}{blk:aU}(hu:P.underlying t=some (.slice elem))(he:(P.info? elem).map (·.size)=some 1)(hg:M.get b=some blk)(hz:blk.esz=1)(h1:hi=((m:Nat):Int))(h2:m<n):
  rP P t (aC b 0 n c) none (some (i64 hi)) none M=some (aC b 0 m m):=by
 cases hi':P.info? elem with
 |none=>rw[hi'] at he;cases he
 |some e=>
  rw[hi'] at he
  simp only [Option.map_some,Option.some.injEq] at he
  subst h1
  unfold rP
  have d1:decide ((0:Int)<=((m:Nat):Int))=true:=xAb (by omega)
  have d2:decide (((m:Nat):Int)<=((n:Nat):Int))=true:=xAb (by omega)
  have d3:Nat.beq m n=false:=by
   cases hb:Nat.beq m n
   ·rfl
   ·have:=xBa hb;omega
  have d4:decide (m<=n)=true:=xAb (by omega)
  simp [hu,hi',hg,hz,he,lY,Addr.add,i64]
  rw[d4]
  simp [d3]
section
variable{el:TypeId}{w n:Nat}{M0 M M':aB}{bad:List Nat}{cs:List Value}{S:Value}
theorem cR.grow{x b:Nat}(h:cR el w M0 bad n cs S M)(hx:x∈bad)(hb:M.next=b)(hk: ∀id,id≠x->id<M.next->M'.get id=M.get id):cR el w M0 (b::bad) n cs S M':=by
 rcases h with h|⟨b',h1,h2,h3,h4,h5,h6⟩
 ·exact .inl h
 ·have a0:=aB.lt_of_get h6
  refine .inr ⟨b',h1,h2,h3,h4,?_,(hk b' (fun e=>h5 (e▸hx)) a0).trans h6⟩
  simp only [List.mem_cons,not_or]
  exact⟨by omega,h5⟩
theorem cR.form(h:cR el w M0 bad n cs S M): ∃a:Option Addr,S= .slice a n n/\(a.isNone=true->n=0/\n=0):=by
 rcases h with⟨rfl,rfl,_⟩|⟨b,rfl,_⟩
 ·exact⟨none,rfl,fun _=>⟨rfl,rfl⟩⟩
 ·exact⟨some ⟨b,0,none⟩,rfl,fun h=>by cases h⟩
end
def Rl(arcs:List A7)(i:Int):List Int:=open Classical in if h: ∃l,Un arcs i.toNat l then h.choose else[]
theorem uR{arcs:List A7}{i:Nat}{l:List Int}(h:Un arcs i l):Rl arcs ((i:Nat):Int)=l:=by
 unfold Rl
 rw[Int.toNat_natCast]
 have hx: ∃l,Un arcs i l:=⟨l,h⟩
 rw[dif_pos hx]
 exact hx.choose_spec.uniq h
theorem We{n:Nat}{es:List E4}(a0:fC ((n:Nat):Int) es=true): ∀(i:Nat) (x:A7),(iH n es (bW n es)).b.arcs[i]?=some x-> ∃G l,AF n es G (iH n es (bW n es)).b.arcs i x l:=by
 have hS:=SP.go (rW a0) (iZ a0) (sA a0) (bW n es).length (Nat.le_refl _)
 obtain⟨e1,_⟩:=lF n (cV n es (bW n es) (bW n es).length) n
 have eb:(iH n es (bW n es)).b=(cV n es (bW n es) (bW n es).length).b:=e1
 intro i x hx
 rw[eb] at hx⊢
 exact⟨_,hS.arc i x hx⟩
end Go.Am
end
