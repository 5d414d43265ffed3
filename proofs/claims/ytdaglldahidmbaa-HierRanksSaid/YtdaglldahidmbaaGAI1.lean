/-
  Package hier: each of its laws for every argument; no conditions. The last text states which.
-/
import Derived.Test.YtdaglldahidmbaaGAHL
import Derived.Test.YtdaglldahidmbaaGVG
import Derived.Test.YtdaglldahidmbaaGVB
import Derived.Test.YtdaglldahidmbaaGAmTn
set_option linter.unusedVariables false
set_option linter.unusedSimpArgs false
open Go Go.Am Go.Proofs
namespace Go.Proofs.Ytdaglldahidmbaa
set_option maxRecDepth 100000
def Hh(nx:Nat)(l:List E4)(S:Value)(M:aA):Prop:=(S=cI/\l= [])\/ ∃b,S=aD b 0 l.length l.length/\0<l.length/\nx<=b/\M.get b=some ⟨(l.map kL).flatten,37,4,0,true⟩
def pMkO(x:Nat×List E4)(nx:Nat)(v:Value)(M:aA):Prop:= ∃S,v= .agg ⟨[i64 (x.1:Int),S]⟩/\Hh nx x.2 S M
instance:AQ pMkO:=⟨fun hE ⟨S,h1,h2⟩=>⟨S,h1,h2.imp id fun⟨b,q1,q2,q3,q4⟩=>⟨b,q1,q2,q3,hE _ _ q4⟩⟩⟩
abbrev Q9:=FC as0 (plain pB) (fun _=>true)
theorem con9{x:Unit}{lv:List Value}{M:aA}(hM:aB M)(h:as0 x lv M): ∃v M',lQ Try.prog [] 9 Q9 lv M v M':=by
 refine FC.con h ?_
 obtain rfl:=h
 exact⟨_,M,Ev.of_spec Sz rfl,Ext.refl M,rfl⟩
theorem fN(z:Int):(!(z==z))=false:=by rw[beq_self_eq_true];rfl
theorem Hh.ext{nx:Nat}{l:List E4}{S:Value}{M M':aA}(h:Hh nx l S M)(hE: ∀id b,M.get id=some b->M'.get id=some b):Hh nx l S M':=h.imp id fun⟨b,q1,q2,q3,q4⟩=>⟨b,q1,q2,q3,hE _ _ q4⟩
instance{nx:Nat}:AP (fun(l:List E4) S M=>Hh nx l S M):=⟨fun{x y v M} h k=>by
 rcases h with⟨rfl,rfl⟩|⟨b,rfl,h1,h2,h3⟩
 ·rcases k with⟨_,rfl⟩|⟨b,hb,_⟩
  ·rfl
  ·cases hb
 ·rcases k with⟨hb,_⟩|⟨b',hb,k1,k2,k3⟩
  ·cases hb
  ·simp only [aD,Value.slice.injEq,Option.some.injEq,Addr.mk.injEq,and_true] at hb
   obtain⟨e1,e2,_⟩:=hb
   subst e1
   rw[h3] at k3
   have e3:(x.map kL).flatten=(y.map kL).flatten:=by simpa using k3
   clear h1 h2 h3 k1 k2 k3
   induction x generalizing y with
   |nil=>exact(List.eq_nil_of_length_eq_zero e2.symm).symm
   |cons a x ih=>cases y with
    |nil=>cases e2
    |cons c y=>
     simp only [List.map_cons,List.flatten_cons,kL,List.cons_append,List.nil_append,List.cons.injEq] at e3
     obtain⟨q1,q2,q3,q4,q5⟩:=e3
     rw[ih (by simpa using e2) (by simpa using e2) q5]
     have:kL a=kL c:=by simp [kL,q1,q2,q3,q4]
     rw[Ru.inj (g:=kL) _ _ this],fun hE h=>Hh.ext h hE⟩
instance{nx:Nat}:AP (Hh nx):=(inferInstance:AP (fun(l:List E4) S M=>Hh nx l S M))
end Go.Proofs.Ytdaglldahidmbaa

noncomputable section
namespace Go.Am
open Go
set_option linter.unusedVariables false
structure RI(n:Nat)(l:List Int)(i:Nat)(s:Da):Prop where
 gone: ∀u:Nat,u<n->(dI s.gone u=true↔ ∃j,j<i/\l[j]?=some ((u:Nat):Int))
 rk: ∀(u:Nat) (r:Int),s.rank[u]?=some r->(r= -1/\ ∀j,j<i->l[j]?≠some ((u:Nat):Int))\/(∃j:Nat,j<i/\l[j]?=some ((u:Nat):Int)/\r=((j:Nat):Int))
 up: ∀(v:Nat) (r:List Int),s.up[v]?=some r-> ∀a∈r,0<=a/\ ∃x j,s.b.arcs[a.toNat]?=some x/\j<i/\l[j]?=some ((v:Nat):Int)/\x.f=((v:Nat):Int)/\(0<=x.t/\x.t<n)/\(x.t=((v:Nat):Int)\/ ∀k,k<=j->l[k]?≠some x.t)
 down: ∀(v:Nat) (r:List Int),s.down[v]?=some r-> ∀a∈r,0<=a/\ ∃x j,s.b.arcs[a.toNat]?=some x/\j<i/\l[j]?=some ((v:Nat):Int)/\x.t=((v:Nat):Int)/\(0<=x.f/\x.f<n)/\ ∀k,k<=j->l[k]?≠some x.f
theorem RI.zero{n:Nat}{es:List E4}{l:List Int}:RI n l 0 (jT n es l 0):=by
 refine⟨fun u hu=> ?_,fun u r hr=> .inl ⟨?_,fun j hj=>by omega⟩,fun v r hr a ha=> ?_,fun v r hr a ha=> ?_⟩
 ·have:dI (jT n es l 0).gone u=false:=by
   show dI (List.replicate n false) u=false
   unfold dI
   rw[List.getElem?_replicate,if_pos hu];rfl
  rw[this]
  exact⟨fun h=>(by cases h),fun⟨j,hj,_⟩=>(by omega)⟩
 ·have hr':(List.replicate n (-1:Int))[u]?=some r:=hr
  rw[List.getElem?_replicate] at hr'
  split at hr'
  ·exact(Option.some.inj hr').symm
  ·cases hr'
 ·have hr':(List.replicate n ([]:List Int))[v]?=some r:=hr
  rw[List.getElem?_replicate] at hr'
  split at hr'
  ·rw[<-Option.some.inj hr'] at ha;cases ha
  ·cases hr'
 ·have hr':(List.replicate n ([]:List Int))[v]?=some r:=hr
  rw[List.getElem?_replicate] at hr'
  split at hr'
  ·rw[<-Option.some.inj hr'] at ha;cases ha
  ·cases hr'
theorem Be{g:List Bool}{v u:Nat}(hv:v<g.length):dI (g.set v true) u=true↔u=v\/dI g u=true:=by
 unfold dI
 rw[List.getElem?_set]
 by_cases h:v=u
 ·subst h;simp [hv]
 ·simp [h,Ne.symm h]
theorem Bz{g:List Bool}{u:Nat}:dI g u=false↔ ¬dI g u=true:=by simp
theorem RI.step{n i v:Nat}{C:Int}{k:Nat}{l:List Int}{s:Da}(h:RI n l i s)(hG:HG n C k s)(hC:0<=C)(hv:v<n)(ht:l[i]?=some ((v:Nat):Int)):RI n l (i+1) (sD n {s with rank:=s.rank.set v i} v):=by
 have hm: ∀(g:List Bool) (w:Df),∀i∈cL n s.b.cur g w v,i.toNat<s.b.arcs.length:=fun g w i hi=>by
  obtain⟨_,a,_,_,e,_⟩:=hG.hi.row hv hi
  exact(List.getElem?_eq_some_iff.1 e).1
 have hold:=((Dd.zero hC hG.hi).all (v:=v) hG.hi (hm (s.gone.set v true) .inn) (hm s.gone .out)).old
 have hgl:v<s.gone.length:=by rw[hG.gone];exact hv
 refine⟨fun u hu=> ?_,fun u r hr=> ?_,fun v' r hr a ha=> ?_,fun v' r hr a ha=> ?_⟩
 ·show dI (s.gone.set v true) u=true↔_
  rw[Be hgl,h.gone u hu]
  constructor
  ·rintro(rfl|⟨j,h1,h2⟩)
   ·exact⟨i,by omega,ht⟩
   ·exact⟨j,by omega,h2⟩
  ·rintro⟨j,h1,h2⟩
   by_cases e:j=i
   ·subst e
    rw[ht] at h2
    have:=Option.some.inj h2
    exact .inl (by omega)
   ·exact .inr ⟨j,by omega,h2⟩
 ·have hr':(s.rank.set v ((i:Nat):Int))[u]?=some r:=hr
  rw[List.getElem?_set] at hr'
  by_cases e:v=u
  ·subst e
   rw[if_pos rfl] at hr'
   split at hr'
   ·exact .inr ⟨i,by omega,ht,(Option.some.inj hr').symm⟩
   ·cases hr'
  ·rw[if_neg e] at hr'
   rcases h.rk u r hr' with⟨h1,h2⟩|⟨j,h1,h2,h3⟩
   ·refine .inl ⟨h1,fun j hj hh=> ?_⟩
    by_cases e2:j=i
    ·subst e2
     rw[ht] at hh
     have:=Option.some.inj hh
     exact e (by omega)
    ·exact h2 j (by omega) hh
   ·exact .inr ⟨j,by omega,h2,h3⟩
 ·have hr':(s.up.set v (cL n s.b.cur s.gone .out v))[v']?=some r:=hr
  rw[List.getElem?_set] at hr'
  by_cases e:v=v'
  ·subst e
   rw[if_pos rfl] at hr'
   split at hr'
   ·have:=Option.some.inj hr'
    subst this
    obtain⟨h0,x,u,m,e1,e2,e3,e4,e5,e6,e7⟩:=hG.hi.row hv ha
    refine⟨h0,x,i,hold _ _ e1,by omega,ht,e6,by omega,?_⟩
    by_cases eu:u=v
    ·exact .inl (by omega)
    ·refine .inr fun k hk hh=> ?_
     rw[e7] at hh
     by_cases ek:k=i
     ·subst ek
      rw[ht] at hh
      have:=Option.some.inj hh
      omega
     ·exact Bz.1 e3 ((h.gone u e2).2 ⟨k,by omega,hh⟩)
   ·cases hr'
  ·rw[if_neg e] at hr'
   obtain⟨h0,x,j,q1,q2,q3⟩:=h.up v' r hr' a ha
   exact⟨h0,x,j,hold _ _ q1,by omega,q3⟩
 ·have hr':(s.down.set v (cL n s.b.cur (s.gone.set v true) .inn v))[v']?=some r:=hr
  rw[List.getElem?_set] at hr'
  by_cases e:v=v'
  ·subst e
   rw[if_pos rfl] at hr'
   split at hr'
   ·have:=Option.some.inj hr'
    subst this
    obtain⟨h0,x,u,m,e1,e2,e3,e4,e5,e6,e7⟩:=hG.hi.row hv ha
    refine⟨h0,x,i,hold _ _ e1,by omega,ht,e7,by omega,fun k hk hh=> ?_⟩
    rw[e6] at hh
    have hn:=Bz.1 e3
    rw[Be hgl] at hn
    by_cases ek:k=i
    ·subst ek
     rw[ht] at hh
     have:=Option.some.inj hh
     exact hn (.inl (by omega))
    ·exact hn (.inr ((h.gone u e2).2 ⟨k,by omega,hh⟩))
   ·cases hr'
  ·rw[if_neg e] at hr'
   obtain⟨h0,x,j,q1,q2,q3⟩:=h.down v' r hr' a ha
   exact⟨h0,x,j,hold _ _ q1,by omega,q3⟩
theorem RI.go{n:Nat}{es:List E4}{l:List Int}(hes:xV n es)(hl: ∀v∈l,0<=v/\v<n): ∀i,i<=l.length->RI n l i (jT n es l i):=by
 intro i
 induction i with
 |zero=>intro _;exact RI.zero
 |succ i ih=>
  intro hi
  have e:=List.getElem?_eq_getElem (show i<l.length by omega)
  have hv:=hl _ (List.getElem_mem (show i<l.length by omega))
  unfold jT
  rw[e]
  simp only
  exact(ih (by omega)).step (HG.go hes hl i (by omega)) (by have:(0:Int)<=2^i:=Int.pow_nonneg (by omega);omega) (by omega) (by rw[e];congr 1;omega)
structure RF(n:Nat)(l:List Int)(s:Da):Prop where
 rk: ∀(i:Nat) (v:Int),l[i]?=some v->s.rank[v.toNat]?=some ((i:Nat):Int)
 up: ∀(v:Nat) (r:List Int),v<n->s.up[v]?=some r-> ∃rv,s.rank[v]?=some rv/\ ∀a∈r,0<=a/\ ∃x ru,s.b.arcs[a.toNat]?=some x/\x.f=((v:Nat):Int)/\(0<=x.t/\x.t<n)/\s.rank[x.t.toNat]?=some ru/\(x.t=((v:Nat):Int)\/ru<0\/rv<ru)/\(0<=rv\/ru<0)
 down: ∀(v:Nat) (r:List Int),v<n->s.down[v]?=some r-> ∃rv,s.rank[v]?=some rv/\ ∀a∈r,0<=a/\ ∃x ru,s.b.arcs[a.toNat]?=some x/\x.t=((v:Nat):Int)/\0<=rv/\(0<=x.f/\x.f<n)/\s.rank[x.f.toNat]?=some ru/\(ru<0\/rv<ru)
theorem Pu(n:Nat)(s:Da)(hu:s.up.length=n)(v:Nat):v<=n-> ∀(u:Nat) (r:List Int),(eH n s v).up[u]?=some r->s.up[u]?=some r\/(u<n/\dI s.gone u=false/\r=cL n s.b.cur s.gone .out u):=by
 induction v with
 |zero=>intro _ u r h;exact .inl h
 |succ v ih=>
  intro hv u r h
  obtain⟨e1,e2,_,_,e5⟩:=uQ n s v
  unfold eH at h
  cases hg:dI (eH n s v).gone v with
  |true=>rw[hg] at h;exact ih (by omega) u r h
  |false=>
   rw[hg,cond_false] at h
   simp only at h
   rw[List.getElem?_set] at h
   by_cases e:v=u
   ·subst e
    rw[if_pos rfl] at h
    split at h
    ·rw[e1,e2] at h
     rw[e2] at hg
     exact .inr ⟨by omega,hg,(Option.some.inj h).symm⟩
    ·cases h
   ·rw[if_neg e] at h
    exact ih (by omega) u r h
theorem RF.of{n:Nat}{es:List E4}{l:List Int}(hes:xV n es)(hl: ∀v∈l,0<=v/\v<n)(hnd:l.Nodup):RF n l (lH n es l):=by
 have h:=RI.go hes hl l.length (Nat.le_refl _)
 have hG:=HG.go hes hl l.length (Nat.le_refl _)
 obtain⟨e1,e2,e3,e4,e5⟩:=uQ n (jT n es l l.length) n
 have hin: ∀{j:Nat} {x:Int},l[j]?=some x->j<l.length:=fun hj=>(List.getElem?_eq_some_iff.1 hj).1
 have hinj: ∀{i j:Nat} {x:Int},l[i]?=some x->l[j]?=some x->i=j:=fun{i j x} hi hj=>by
  obtain⟨a1,a2⟩:=List.getElem?_eq_some_iff.1 hi
  obtain⟨b1,b2⟩:=List.getElem?_eq_some_iff.1 hj
  exact(List.getElem?_inj a1 hnd).1 (hi.trans hj.symm)
 have hrk: ∀u:Nat,u<n-> ∃r,(jT n es l l.length).rank[u]?=some r:=fun u hu=>⟨_,List.getElem?_eq_getElem (by rw[hG.rank];exact hu)⟩
 unfold lH
 refine⟨fun i v hi=> ?_,fun v r hv hr=> ?_,fun v r hv hr=> ?_⟩
 ·rw[e3]
  have hb:=hl v (List.mem_of_getElem? hi)
  obtain⟨r,hr⟩:=hrk v.toNat (by omega)
  have ev:((v.toNat:Nat):Int)=v:=by omega
  rw[hr]
  rcases h.rk _ _ hr with⟨_,h2⟩|⟨j,_,h2,h3⟩
  ·exact absurd (by rw[ev];exact hi) (h2 i (hin hi))
  ·rw[ev] at h2
   rw[h3,hinj h2 hi]
 ·rw[e1,e3]
  obtain⟨rv,hrv⟩:=hrk v hv
  refine⟨rv,hrv,fun a ha=> ?_⟩
  rcases Pu n _ hG.up n (Nat.le_refl _) v r hr with a0|⟨_,hg,rfl⟩
  ·obtain⟨h0,x,j,q1,q2,q3,q4,q5,q6⟩:=h.up v r a0 a ha
   obtain⟨ru,hru⟩:=hrk x.t.toNat (by omega)
   have et:((x.t.toNat:Nat):Int)=x.t:=by omega
   rcases h.rk _ _ hrv with⟨_,w⟩|⟨j',w1,w2,w3⟩
   ·exact absurd q3 (w j q2)
   ·have:=hinj w2 q3
    refine⟨h0,x,ru,q1,q4,q5,hru,?_,.inl (by omega)⟩
    rcases q6 with q6|q6
    ·exact .inl q6
    ·rcases h.rk _ _ hru with⟨w4,_⟩|⟨k,w4,w5,w6⟩
     ·exact .inr (.inl (by omega))
     ·rw[et] at w5
      by_cases hk:k<=j
      ·exact absurd w5 (q6 k hk)
      ·exact .inr (.inr (by omega))
  ·obtain⟨h0,x,u,m,q1,q2,q3,q4,q5,q6,q7⟩:=hG.hi.row hv ha
   obtain⟨ru,hru⟩:=hrk x.t.toNat (by omega)
   have et:((x.t.toNat:Nat):Int)=x.t:=by omega
   have hneg:ru<0:=by
    rcases h.rk _ _ hru with⟨w4,_⟩|⟨k,w4,w5,w6⟩
    ·omega
    ·exact absurd ((h.gone u q2).2 ⟨k,w4,by rw[w5];congr 1;omega⟩) (Bz.1 q3)
   exact⟨h0,x,ru,q1,q6,by omega,hru,.inr (.inl hneg),.inr hneg⟩
 ·rw[e1,e3]
  rw[e4] at hr
  obtain⟨rv,hrv⟩:=hrk v hv
  refine⟨rv,hrv,fun a ha=> ?_⟩
  obtain⟨h0,x,j,q1,q2,q3,q4,q5,q6⟩:=h.down v r hr a ha
  obtain⟨ru,hru⟩:=hrk x.f.toNat (by omega)
  have et:((x.f.toNat:Nat):Int)=x.f:=by omega
  rcases h.rk _ _ hrv with⟨_,w⟩|⟨j',w1,w2,w3⟩
  ·exact absurd q3 (w j q2)
  ·have:=hinj w2 q3
   refine⟨h0,x,ru,q1,q4,by omega,q5,hru,?_⟩
   rcases h.rk _ _ hru with⟨w4,_⟩|⟨k,w4,w5,w6⟩
   ·exact .inl (by omega)
   ·rw[et] at w5
    by_cases hk:k<=j
    ·exact absurd w5 (q6 k hk)
    ·exact .inr (by omega)
end Go.Am
end

open Go Go.Am Go.Proofs
namespace Go.Proofs.Ytdaglldahidmbaa
set_option maxRecDepth 100000
theorem Ay: ∀l:List Int,Pw l l=true
 | []=>rfl
 |a::l=>by rw[Pw,Ay l,beq_self_eq_true];rfl
theorem Vi(l:List Int):(!(Pw l l))=false:=by rw[Ay];rfl
theorem rs15(q1 q2 ab ao ac cb co cc k i n:Nat)(x:E4){M:aA}{M0:aA}(X0:Ext M0 M)(hab:ab<M0.next)(hcb:cb<M0.next)(gq1:M.get q1=some ⟨[i64 n,aD ab ao k ac],26,2,0,true⟩)(gq2:M.get q2=some ⟨[i64 n,aD cb co k cc],26,2,0,true⟩)(cc0:(decide ((i:Int)<(k:Int)))=true)(cc1:(Pw [x.f,x.t,x.m,x.c] [x.f,x.t,x.m,x.c])=true)(hld0:aX Try.prog 37 ⟨ab,ao+((i:Int):Int).toNat*4,none⟩ M0=some (.agg ⟨[i64 x.f,i64 x.t,i64 x.m,i64 x.c]⟩))(hld1:aX Try.prog 37 ⟨cb,co+((i:Int):Int).toNat*4,none⟩ M0=some (.agg ⟨[i64 x.f,i64 x.t,i64 x.m,i64 x.c]⟩)): ∃T1,Rd Try.prog [] (q15.loopAt 0) Try.f15.ntmps (fr [(2,(pt q1 0)),(3,(pt q2 0)),(5,(i64 (i:Int)))]) M .normal T1 M/\ [2,3,5].map T1.get= [some (pt q1 0),some (pt q2 0),some (i64 (IntKind.wrap .i64 ((i:Int)+(1:Int))))]:=by
 exact Rd.told (tb:=[]) (n:=80) (F:=[aU 5 (aD ab ao k ac),aM 10,aU 14 (aD ab ao k ac),aM 18,aU 20 (.agg ⟨[i64 x.f,i64 x.t,i64 x.m,i64 x.c]⟩),aU 24 (aD cb co k cc),aM 28,aU 30 (.agg ⟨[i64 x.f,i64 x.t,i64 x.m,i64 x.c]⟩),aO 32]) aJ aI (aG Try.prog) (fun _ _=>rfl) (by kernel_rfl) (hk (lC (o:=1) cP gq1 rfl) (hk (bT cc0) (hk (lC (o:=1) cP gq1 rfl) (hk (qI (i:Int) k (by omega) (by simp at cc0;omega)) (hk (lD (aE X0 hld0)) (hk (lC (o:=1) cP gq2 rfl) (hk (qI (i:Int) k (by omega) (by simp at cc0;omega)) (hk (lD (aE X0 hld1)) (hk (bF (x:=!(Pw [x.f,x.t,x.m,x.c] [x.f,x.t,x.m,x.c])) (Vi _)) hn)))))))))
theorem rs15x(q1 q2 k ac i n:Nat)(ae:Option Addr)(V2:Value){M:aA}(hln:ae.isNone=true->k=0/\ac=0)(gq1:M.get q1=some ⟨[i64 n,.slice ae k ac],26,2,0,true⟩)(gq2:M.get q2=some ⟨[i64 n,V2],26,2,0,true⟩)(cc0:(decide ((i:Int)<(k:Int)))=false): ∃T1,Rd Try.prog [] (q15.loopAt 0) Try.f15.ntmps (fr [(2,(pt q1 0)),(3,(pt q2 0)),(5,(i64 (i:Int)))]) M (.exit 0) T1 M/\ [].map T1.get= []:=by
 exact Rd.told (tb:=[]) (n:=60) (F:=[aU 5 (.slice ae k ac),aM 7,aO 10]) aJ aI (aG Try.prog) (fun _ _=>rfl) (by kernel_rfl) (hk (lC (o:=1) cP gq1 rfl) (hk (lN hln) (hk (bF cc0) hn)))
theorem aAD{q1 q2 n:Nat}{a1 a2:Option Addr}{c1 c2:Nat}{l:List E4}{M0 M:aA}(hM:aB M)(X0:Ext M0 M)(g1:M.get q1=some ⟨[i64 n,.slice a1 l.length c1],26,2,0,true⟩)(g2:M.get q2=some ⟨[i64 n,.slice a2 l.length c2],26,2,0,true⟩)(h1:aV l (.slice a1 l.length c1) M0)(h2:aV l (.slice a2 l.length c2) M0):
  ∃M',bJ Try.prog [] (q15.loopAt 0) Try.f15.ntmps (fr [(2,pt q1 0),(3,pt q2 0),(5,i64 ((0:Nat):Int))]) M (.exit 0) (fr []) M'/\Ext M0 M'/\aB M':=by
 have hlen:=h1.len
 obtain⟨_,M',k1,k2,k3,_⟩:=bJ.for (P:=Try.prog) (GL:= []) (b:=q15.loopAt 0) (nt:=Try.f15.ntmps) (id:=0) (σ:=Unit) (n:=l.length) (Inv:=fun i _ M1=>Ext M0 M1/\aB M1/\M1.get q1=some ⟨[i64 n,.slice a1 l.length c1],26,2,0,true⟩/\M1.get q2=some ⟨[i64 n,.slice a2 l.length c2],26,2,0,true⟩)
  (F:=fun i _=> [(2,pt q1 0),(3,pt q2 0),(5,i64 ((i:Nat):Int))]) (O:=fun _=> [])
  (by
   rintro i _ M1 hi ⟨X,a0,g1,g2⟩
   obtain⟨bb,o,rfl,_⟩:=cD h1 (by omega)
   obtain⟨a3,o2,rfl,_⟩:=cD h2 (by omega)
   have ht:l[i]?=some l[i]:=List.getElem?_eq_getElem hi
   have l1:=uV (P:=Try.prog) (ty:=37) h1 ht tM lS
   have l2:=uV (P:=Try.prog) (ty:=37) h2 ht tM lS
   obtain⟨T1,e1,e2⟩:=rs15 q1 q2 bb o c1 a3 o2 c2 l.length i n l[i] (M:=M1) X (Go.Am.oH h1 (by omega)) (Go.Am.oH h2 (by omega)) g1 g2 (decide_eq_true (by omega)) (Ay _) (by rw[Int.toNat_natCast];exact l1) (by rw[Int.toNat_natCast];exact l2)
   rw[aY (by omega)] at e2
   exact⟨(),T1,M1,e1,e2,X,a0,g1,g2⟩)
  (by
   rintro _ M1 ⟨X,a0,g1,g2⟩
   exact rs15x q1 q2 l.length c1 l.length n a1 (.slice a2 l.length c2) (M:=M1) h1.ln g1 g2 (decide_eq_false (by omega)))
  l.length 0 (by omega) (s:=()) (M:=M) ⟨X0,hM,g1,g2⟩
 exact⟨M',k1,k2,k3⟩
theorem rK15:Try.f15.results= #[.tmp 4]:=by kernel_rfl
theorem s15(n:Nat)(a1:Option Addr)(c1:Nat)(a2:Option Addr)(c2:Nat)(l:List E4){M:aA}(hM:aB M)(h1:aV l (.slice a1 l.length c1) M)(h2:aV l (.slice a2 l.length c2) M): ∃v_ M',Ev Try.prog [] 15 [.agg ⟨[i64 (n:Int),.slice a1 l.length c1]⟩,.agg ⟨[i64 (n:Int),.slice a2 l.length c2]⟩] M v_ M'/\Ext M M'/\aB M'/\v_= .bool true:=by
 obtain⟨b1,M2,b6,b7,g5,E6,b8⟩:=bG hM ⟨[i64 (n:Int),.slice a1 l.length c1],26,2,0,true⟩
 have X9:=(Ext.refl M).trans E6
 obtain⟨a4,a0,a5,a6,a7,b3,b0⟩:=bG b8 ⟨[i64 (n:Int),.slice a2 l.length c2],26,2,0,true⟩
 have a8:=b3.old g5
 have b4:=X9.trans b3
 obtain⟨a3,a9,b5,b2⟩:=aAD (M0:=M) b0 b4 a8 a7 h1 h2
 exact⟨.bool true,a3,Ev.told_tmp (tb:=[0]) (n:=60) (F:=[bL 1 (pt b1 0) M2,bL 3 (pt a4 0) a0,aU 9 (i64 (n:Int)),aU 13 (i64 (n:Int)),aO 18,aO 20,aU 21 (.slice a1 l.length c1),aO 22,aM 23,aO 24,aO 26,aU 27 (.slice a2 l.length c2),aO 28,aM 29,aO 30,aO 33,aO 34,.blk 37 [2,3,5] .normal (fr []) a3]) aJ aI Try.func15 Xa (by kernel_rfl) rK15 (fun B=>zN (gQ B) 0 a9) (fun _ h=>cF h) (by kernel_rfl) (hq (.eq (fE Try.prog 26 (.agg ⟨[i64 (n:Int),.slice a1 l.length c1]⟩) M) (1,.val (pt b1 0),M2)) (bZ (by rw[<-b6,<-b7];kernel_rfl) Nat.one_ne_zero) (hq (.eq (fE Try.prog 26 (.agg ⟨[i64 (n:Int),.slice a2 l.length c2]⟩) M2) (1,.val (pt a4 0),a0)) (bZ (by rw[<-a5,<-a6];kernel_rfl) Nat.one_ne_zero) (hk (lC (o:=0) cO a8 rfl) (hk (lC (o:=0) cO a7 rfl) (hk (bF (x:=!((n:Int)==(n:Int))) (fN _)) (hk (bF (x:=!((n:Int)==(n:Int))) (fN _)) (hk (lC (o:=1) cP a8 rfl) (hk (bF (x:=!((n:Int)==(n:Int))) (fN _)) (hk (lN h1.ln) (hk (bF (x:=!((n:Int)==(n:Int))) (fN _)) (hk (bF (x:=!((n:Int)==(n:Int))) (fN _)) (hk (lC (o:=1) cP a7 rfl) (hk (bF (x:=!((n:Int)==(n:Int))) (fN _)) (hk (lN h2.ln) (hk (bF (x:=!((n:Int)==(n:Int))) (fN _)) (hk (bF (x:=!((n:Int)==(n:Int))) (fN _)) (hk (bF (x:=!((l.length:Int)==(l.length:Int))) (fN _)) (hq (.blk 0 (.loop (q15.loopAt 0)) Try.f15.ntmps [2,3,5] [some (pt b1 0),some (pt a4 0),some (i64 0)] a0 .normal (fr []) a3) (fH rfl) hn)))))))))))))))))),b5,b2,rfl⟩
abbrev Q15:=FC (iG (mG jC jC) fun x=>x.1=x.2) (plain pB) (fun _=>true)
theorem Zt{x:(Nat×List E4)×(Nat×List E4)}{lv:List Value}{M:aA}(hM:aB M)(h:(iG (mG jC jC) fun x:(Nat×List E4)×(Nat×List E4)=>x.1=x.2) x lv M): ∃v M',lQ Try.prog [] 15 Q15 lv M v M':=by
 refine FC.con h ?_
 obtain⟨⟨g0,g1,rfl,k0,k1⟩,he⟩:=h
 obtain⟨⟨n,l⟩,y⟩:=x
 obtain rfl:(n,l)=y:=he
 obtain⟨_,rfl,k0⟩:=k0
 obtain⟨_,rfl,k1⟩:=k1
 obtain⟨a1,c1,rfl⟩:=aK.form k0
 obtain⟨a2,c2,rfl⟩:=aK.form k1
 obtain⟨v,M',h1,h2,_,h3⟩:=s15 n a1 c1 a2 c2 l hM k0 k1
 exact⟨v,M',h1,h2,h3⟩
theorem hru0(q x rb ro rc eb eo L ec ub uo uc wb wo m wc n v i:Nat)(u0 u1 u2 u3 u4 u5 ev:Value)(a rv ru:Int)(x_:A7){M:aA}{M0:aA}(X0:Ext M0 M)(hrb:rb<M0.next)(heb:eb<M0.next)(hub:ub<M0.next)(hwb:wb<M0.next)(gq:M.get q=some ⟨[i64 n,ev],26,2,0,true⟩)(gx:M.get x=some ⟨[u0,u1,aD rb ro n rc,aD eb eo L ec,aD ub uo n uc,u5],31,6,0,true⟩)(hvn:v<n)(ha:0<=a/\a<(L:Int))(hnear:x_.f=(v:Int))(hfar:0<=x_.t/\x_.t<(n:Int))(cc0:(decide ((i:Int)<(m:Int)))=true)(cc1:(x_.t==(v:Int))=true)(cc2:(decide (rv<(0:Int)))=true)(cc3:(decide (ru>=(0:Int)))=false)(hld0:aX Try.prog 22 ⟨ub,uo+((v:Int):Int).toNat*1,none⟩ M0=some (aD wb wo m wc))(hld1:aX Try.prog 3 ⟨wb,wo+((i:Int):Int).toNat*1,none⟩ M0=some (i64 a))(hld2:aX Try.prog 3 ⟨eb,eo+(a:Int).toNat*7,none⟩ M0=some (i64 x_.f))(hld3:aX Try.prog 3 ⟨eb,eo+(a:Int).toNat*7+1,none⟩ M0=some (i64 x_.t))(hld4:aX Try.prog 3 ⟨rb,ro+((v:Int):Int).toNat*1,none⟩ M0=some (i64 rv))(hld5:aX Try.prog 3 ⟨rb,ro+(x_.t:Int).toNat*1,none⟩ M0=some (i64 ru)): ∃T1,Rd Try.prog [] (q4.loopAt 4) Try.f4.ntmps (fr [(7,(pt q 0)),(8,(pt x 0)),(11,(i64 (v:Int))),(12,(i64 (i:Int)))]) M .normal T1 M/\ [7,8,11,12].map T1.get= [some (pt q 0),some (pt x 0),some (i64 (v:Int)),some (i64 (IntKind.wrap .i64 ((i:Int)+(1:Int))))]:=by
 exact Rd.told (tb:=[]) (n:=200) (F:=[aU 5 (aD ub uo n uc),aM 9,aU 11 (aD wb wo m wc),aM 16,aU 20 (aD ub uo n uc),aM 24,aU 26 (aD wb wo m wc),aM 30,aU 32 (i64 a),aO 41,aO 43,aO 45,aU 46 (aD eb eo L ec),aO 47,aO 49,aO 52,aO 55,aO 57,aU 58 (aD eb eo L ec),aO 59,aO 61,aM 62,aO 63,aO 65,aU 66 (i64 x_.f),aO 67,aO 69,aO 72,aO 73,aU 77 (aD eb eo L ec),aM 81,aU 85 (i64 x_.t),aO 94,aO 96,aO 98,aU 99 (i64 (n:Int)),aO 100,aO 103,aO 106,aO 108,aO 110,aO 112,aO 114,aO 116,aO 118,aO 120,aO 122,aO 124,aO 126,aO 127,aO 128,aO 152,aO 155,aU 161 (aD rb ro n rc),aM 165,aU 167 (i64 rv),aM 172,aM 174,aU 175 (aD rb ro n rc),aM 176,aM 178,aM 179,aM 180,aU 181 (i64 ru),aM 182,aM 185,aO 188]) aJ aI (aG Try.prog) (fun _ _=>rfl) (by kernel_rfl) (hk (lC (o:=4) mB gx rfl) (hk (qI (v:Int) n (by omega) (by omega)) (hk (lD (aE X0 hld0)) (hk (bT cc0) (hk (lC (o:=4) mB gx rfl) (hk (qI (v:Int) n (by omega) (by omega)) (hk (lD (aE X0 hld0)) (hk (qI (i:Int) m (by omega) (by simp at cc0;omega)) (hk (lD (aE X0 hld1)) (hk (bF (x:=decide (a<(0:Int))) (decide_eq_false (by omega))) (hk (bF (x:=decide (a<(0:Int))) (decide_eq_false (by omega))) (hk (bF (x:=decide (a<(0:Int))) (decide_eq_false (by omega))) (hk (lC (o:=3) lR gx rfl) (hk (bF (x:=decide (a<(0:Int))) (decide_eq_false (by omega))) (hk (bF (x:=decide (a<(0:Int))) (decide_eq_false (by omega))) (hk (bF (x:=decide (a<(0:Int))) (decide_eq_false (by omega))) (hk (bF (x:=decide (a>=(L:Int))) (decide_eq_false (by omega))) (hk (bF (x:=decide (a>=(L:Int))) (decide_eq_false (by omega))) (hk (lC (o:=3) lR gx rfl) (hk (bF (x:=decide (a>=(L:Int))) (decide_eq_false (by omega))) (hk (bF (x:=decide (a>=(L:Int))) (decide_eq_false (by omega))) (hk (qI a L (by omega) (by omega)) (hk (bF (x:=decide (a>=(L:Int))) (decide_eq_false (by omega))) (hk (bF (x:=decide (a>=(L:Int))) (decide_eq_false (by omega))) (hk (lD (aE X0 hld2)) (hk (bF (x:=decide (a>=(L:Int))) (decide_eq_false (by omega))) (hk (bF (x:=decide (a>=(L:Int))) (decide_eq_false (by omega))) (hk (bF (x:=decide (a>=(L:Int))) (decide_eq_false (by omega))) (hk (bF (x:=!(x_.f==(v:Int))) (by rw[hnear];exact fN _)) (hk (lC (o:=3) lR gx rfl) (hk (qI a L (by omega) (by omega)) (hk (lD (aE X0 hld3)) (hk (bF (x:=decide (x_.t<(0:Int))) (decide_eq_false (by omega))) (hk (bF (x:=decide (x_.t<(0:Int))) (decide_eq_false (by omega))) (hk (bF (x:=decide (x_.t<(0:Int))) (decide_eq_false (by omega))) (hk (lC (o:=0) cO gq rfl) (hk (bF (x:=decide (x_.t<(0:Int))) (decide_eq_false (by omega))) (hk (bF (x:=decide (x_.t<(0:Int))) (decide_eq_false (by omega))) (hk (bF (x:=decide (x_.t>=(n:Int))) (decide_eq_false (by omega))) (hk (bF (x:=decide (x_.t>=(n:Int))) (decide_eq_false (by omega))) (hk (bF (x:=decide (x_.t>=(n:Int))) (decide_eq_false (by omega))) (hk (bF (x:=decide (x_.t>=(n:Int))) (decide_eq_false (by omega))) (hk (bF (x:=!(x_.t==(v:Int))) (by rw[cc1];rfl)) (hk (bF (x:=!(x_.t==(v:Int))) (by rw[cc1];rfl)) (hk (bF (x:=!(x_.t==(v:Int))) (by rw[cc1];rfl)) (hk (bF (x:=!(x_.t==(v:Int))) (by rw[cc1];rfl)) (hk (bF (x:=!(x_.t==(v:Int))) (by rw[cc1];rfl)) (hk (bF (x:=!(x_.t==(v:Int))) (by rw[cc1];rfl)) (hk (bF (x:=decide (x_.t>=(n:Int))) (decide_eq_false (by omega))) (hk (bF (x:=!(x_.t==(v:Int))) (by rw[cc1];rfl)) (hk (bF (x:=decide (x_.t>=(n:Int))) (decide_eq_false (by omega))) (hk (bF (x:=decide (x_.t>=(n:Int))) (decide_eq_false (by omega))) (hk (bF (x:=decide (x_.t>=(n:Int))) (decide_eq_false (by omega))) (hk (lC (o:=2) hI gx rfl) (hk (qI (v:Int) n (by omega) (by omega)) (hk (lD (aE X0 hld4)) (hk (bT cc2) (hk (bT cc2) (hk (lC (o:=2) hI gx rfl) (hk (bT cc2) (hk (bT cc2) (hk (qI x_.t n (by omega) (by omega)) (hk (bT cc2) (hk (lD (aE X0 hld5)) (hk (bT cc2) (hk (bT cc2) (hk (bF cc3) hn)))))))))))))))))))))))))))))))))))))))))))))))))))))))))))))))))))
theorem hru1(q x rb ro rc eb eo L ec ub uo uc wb wo m wc n v i:Nat)(u0 u1 u2 u3 u4 u5 ev:Value)(a rv ru:Int)(x_:A7){M:aA}{M0:aA}(X0:Ext M0 M)(hrb:rb<M0.next)(heb:eb<M0.next)(hub:ub<M0.next)(hwb:wb<M0.next)(gq:M.get q=some ⟨[i64 n,ev],26,2,0,true⟩)(gx:M.get x=some ⟨[u0,u1,aD rb ro n rc,aD eb eo L ec,aD ub uo n uc,u5],31,6,0,true⟩)(hvn:v<n)(ha:0<=a/\a<(L:Int))(hnear:x_.f=(v:Int))(hfar:0<=x_.t/\x_.t<(n:Int))(cc0:(decide ((i:Int)<(m:Int)))=true)(cc1:(x_.t==(v:Int))=true)(cc2:(decide (rv<(0:Int)))=false)(hld0:aX Try.prog 22 ⟨ub,uo+((v:Int):Int).toNat*1,none⟩ M0=some (aD wb wo m wc))(hld1:aX Try.prog 3 ⟨wb,wo+((i:Int):Int).toNat*1,none⟩ M0=some (i64 a))(hld2:aX Try.prog 3 ⟨eb,eo+(a:Int).toNat*7,none⟩ M0=some (i64 x_.f))(hld3:aX Try.prog 3 ⟨eb,eo+(a:Int).toNat*7+1,none⟩ M0=some (i64 x_.t))(hld4:aX Try.prog 3 ⟨rb,ro+((v:Int):Int).toNat*1,none⟩ M0=some (i64 rv)): ∃T1,Rd Try.prog [] (q4.loopAt 4) Try.f4.ntmps (fr [(7,(pt q 0)),(8,(pt x 0)),(11,(i64 (v:Int))),(12,(i64 (i:Int)))]) M .normal T1 M/\ [7,8,11,12].map T1.get= [some (pt q 0),some (pt x 0),some (i64 (v:Int)),some (i64 (IntKind.wrap .i64 ((i:Int)+(1:Int))))]:=by
 exact Rd.told (tb:=[]) (n:=200) (F:=[aU 5 (aD ub uo n uc),aM 9,aU 11 (aD wb wo m wc),aM 16,aU 20 (aD ub uo n uc),aM 24,aU 26 (aD wb wo m wc),aM 30,aU 32 (i64 a),aO 41,aO 43,aO 45,aU 46 (aD eb eo L ec),aO 47,aO 49,aO 52,aO 55,aO 57,aU 58 (aD eb eo L ec),aO 59,aO 61,aM 62,aO 63,aO 65,aU 66 (i64 x_.f),aO 67,aO 69,aO 72,aO 73,aU 77 (aD eb eo L ec),aM 81,aU 85 (i64 x_.t),aO 94,aO 96,aO 98,aU 99 (i64 (n:Int)),aO 100,aO 103,aO 106,aO 108,aO 110,aO 112,aO 114,aO 116,aO 118,aO 120,aO 122,aO 124,aO 126,aO 127,aO 128,aO 152,aO 155,aU 161 (aD rb ro n rc),aM 165,aU 167 (i64 rv),aO 172,aO 174,aO 176,aO 178,aO 180,aO 182,aO 185]) aJ aI (aG Try.prog) (fun _ _=>rfl) (by kernel_rfl) (hk (lC (o:=4) mB gx rfl) (hk (qI (v:Int) n (by omega) (by omega)) (hk (lD (aE X0 hld0)) (hk (bT cc0) (hk (lC (o:=4) mB gx rfl) (hk (qI (v:Int) n (by omega) (by omega)) (hk (lD (aE X0 hld0)) (hk (qI (i:Int) m (by omega) (by simp at cc0;omega)) (hk (lD (aE X0 hld1)) (hk (bF (x:=decide (a<(0:Int))) (decide_eq_false (by omega))) (hk (bF (x:=decide (a<(0:Int))) (decide_eq_false (by omega))) (hk (bF (x:=decide (a<(0:Int))) (decide_eq_false (by omega))) (hk (lC (o:=3) lR gx rfl) (hk (bF (x:=decide (a<(0:Int))) (decide_eq_false (by omega))) (hk (bF (x:=decide (a<(0:Int))) (decide_eq_false (by omega))) (hk (bF (x:=decide (a<(0:Int))) (decide_eq_false (by omega))) (hk (bF (x:=decide (a>=(L:Int))) (decide_eq_false (by omega))) (hk (bF (x:=decide (a>=(L:Int))) (decide_eq_false (by omega))) (hk (lC (o:=3) lR gx rfl) (hk (bF (x:=decide (a>=(L:Int))) (decide_eq_false (by omega))) (hk (bF (x:=decide (a>=(L:Int))) (decide_eq_false (by omega))) (hk (qI a L (by omega) (by omega)) (hk (bF (x:=decide (a>=(L:Int))) (decide_eq_false (by omega))) (hk (bF (x:=decide (a>=(L:Int))) (decide_eq_false (by omega))) (hk (lD (aE X0 hld2)) (hk (bF (x:=decide (a>=(L:Int))) (decide_eq_false (by omega))) (hk (bF (x:=decide (a>=(L:Int))) (decide_eq_false (by omega))) (hk (bF (x:=decide (a>=(L:Int))) (decide_eq_false (by omega))) (hk (bF (x:=!(x_.f==(v:Int))) (by rw[hnear];exact fN _)) (hk (lC (o:=3) lR gx rfl) (hk (qI a L (by omega) (by omega)) (hk (lD (aE X0 hld3)) (hk (bF (x:=decide (x_.t<(0:Int))) (decide_eq_false (by omega))) (hk (bF (x:=decide (x_.t<(0:Int))) (decide_eq_false (by omega))) (hk (bF (x:=decide (x_.t<(0:Int))) (decide_eq_false (by omega))) (hk (lC (o:=0) cO gq rfl) (hk (bF (x:=decide (x_.t<(0:Int))) (decide_eq_false (by omega))) (hk (bF (x:=decide (x_.t<(0:Int))) (decide_eq_false (by omega))) (hk (bF (x:=decide (x_.t>=(n:Int))) (decide_eq_false (by omega))) (hk (bF (x:=decide (x_.t>=(n:Int))) (decide_eq_false (by omega))) (hk (bF (x:=decide (x_.t>=(n:Int))) (decide_eq_false (by omega))) (hk (bF (x:=decide (x_.t>=(n:Int))) (decide_eq_false (by omega))) (hk (bF (x:=!(x_.t==(v:Int))) (by rw[cc1];rfl)) (hk (bF (x:=!(x_.t==(v:Int))) (by rw[cc1];rfl)) (hk (bF (x:=!(x_.t==(v:Int))) (by rw[cc1];rfl)) (hk (bF (x:=!(x_.t==(v:Int))) (by rw[cc1];rfl)) (hk (bF (x:=!(x_.t==(v:Int))) (by rw[cc1];rfl)) (hk (bF (x:=!(x_.t==(v:Int))) (by rw[cc1];rfl)) (hk (bF (x:=decide (x_.t>=(n:Int))) (decide_eq_false (by omega))) (hk (bF (x:=!(x_.t==(v:Int))) (by rw[cc1];rfl)) (hk (bF (x:=decide (x_.t>=(n:Int))) (decide_eq_false (by omega))) (hk (bF (x:=decide (x_.t>=(n:Int))) (decide_eq_false (by omega))) (hk (bF (x:=decide (x_.t>=(n:Int))) (decide_eq_false (by omega))) (hk (lC (o:=2) hI gx rfl) (hk (qI (v:Int) n (by omega) (by omega)) (hk (lD (aE X0 hld4)) (hk (bF cc2) (hk (bF cc2) (hk (bF cc2) (hk (bF cc2) (hk (bF cc2) (hk (bF cc2) (hk (bF cc2) hn)))))))))))))))))))))))))))))))))))))))))))))))))))))))))))))))
theorem hru2(q x rb ro rc eb eo L ec ub uo uc wb wo m wc n v i:Nat)(u0 u1 u2 u3 u4 u5 ev:Value)(a rv ru:Int)(x_:A7){M:aA}{M0:aA}(X0:Ext M0 M)(hrb:rb<M0.next)(heb:eb<M0.next)(hub:ub<M0.next)(hwb:wb<M0.next)(gq:M.get q=some ⟨[i64 n,ev],26,2,0,true⟩)(gx:M.get x=some ⟨[u0,u1,aD rb ro n rc,aD eb eo L ec,aD ub uo n uc,u5],31,6,0,true⟩)(hvn:v<n)(ha:0<=a/\a<(L:Int))(hnear:x_.f=(v:Int))(hfar:0<=x_.t/\x_.t<(n:Int))(cc0:(decide ((i:Int)<(m:Int)))=true)(cc1:(x_.t==(v:Int))=false)(cc2:(decide (ru>=(0:Int)))=true)(cc3:(decide (ru<=rv))=false)(cc4:(decide (rv<(0:Int)))=false)(hld0:aX Try.prog 22 ⟨ub,uo+((v:Int):Int).toNat*1,none⟩ M0=some (aD wb wo m wc))(hld1:aX Try.prog 3 ⟨wb,wo+((i:Int):Int).toNat*1,none⟩ M0=some (i64 a))(hld2:aX Try.prog 3 ⟨eb,eo+(a:Int).toNat*7,none⟩ M0=some (i64 x_.f))(hld3:aX Try.prog 3 ⟨eb,eo+(a:Int).toNat*7+1,none⟩ M0=some (i64 x_.t))(hld4:aX Try.prog 3 ⟨rb,ro+(x_.t:Int).toNat*1,none⟩ M0=some (i64 ru))(hld5:aX Try.prog 3 ⟨rb,ro+((v:Int):Int).toNat*1,none⟩ M0=some (i64 rv)): ∃T1,Rd Try.prog [] (q4.loopAt 4) Try.f4.ntmps (fr [(7,(pt q 0)),(8,(pt x 0)),(11,(i64 (v:Int))),(12,(i64 (i:Int)))]) M .normal T1 M/\ [7,8,11,12].map T1.get= [some (pt q 0),some (pt x 0),some (i64 (v:Int)),some (i64 (IntKind.wrap .i64 ((i:Int)+(1:Int))))]:=by
 exact Rd.told (tb:=[]) (n:=200) (F:=[aU 5 (aD ub uo n uc),aM 9,aU 11 (aD wb wo m wc),aM 16,aU 20 (aD ub uo n uc),aM 24,aU 26 (aD wb wo m wc),aM 30,aU 32 (i64 a),aO 41,aO 43,aO 45,aU 46 (aD eb eo L ec),aO 47,aO 49,aO 52,aO 55,aO 57,aU 58 (aD eb eo L ec),aO 59,aO 61,aM 62,aO 63,aO 65,aU 66 (i64 x_.f),aO 67,aO 69,aO 72,aO 73,aU 77 (aD eb eo L ec),aM 81,aU 85 (i64 x_.t),aO 94,aO 96,aO 98,aU 99 (i64 (n:Int)),aO 100,aO 103,aO 106,aO 108,aO 110,aO 112,aM 114,aM 116,aU 117 (aD rb ro n rc),aM 118,aM 120,aM 121,aM 122,aU 123 (i64 ru),aM 124,aO 126,aM 127,aO 128,aM 130,aM 132,aU 133 (aD rb ro n rc),aM 134,aM 136,aM 137,aM 138,aU 139 (i64 ru),aM 140,aM 142,aU 143 (aD rb ro n rc),aM 144,aM 146,aM 147,aM 148,aU 149 (i64 rv),aM 150,aO 152,aM 153,aO 155,aO 158,aO 160,aU 161 (aD rb ro n rc),aO 162,aO 164,aM 165,aO 166,aU 167 (i64 rv),aO 168,aO 170,aO 172,aO 174,aO 176,aO 178,aO 180,aO 182,aO 184,aO 185,aO 187]) aJ aI (aG Try.prog) (fun _ _=>rfl) (by kernel_rfl) (hk (lC (o:=4) mB gx rfl) (hk (qI (v:Int) n (by omega) (by omega)) (hk (lD (aE X0 hld0)) (hk (bT cc0) (hk (lC (o:=4) mB gx rfl) (hk (qI (v:Int) n (by omega) (by omega)) (hk (lD (aE X0 hld0)) (hk (qI (i:Int) m (by omega) (by simp at cc0;omega)) (hk (lD (aE X0 hld1)) (hk (bF (x:=decide (a<(0:Int))) (decide_eq_false (by omega))) (hk (bF (x:=decide (a<(0:Int))) (decide_eq_false (by omega))) (hk (bF (x:=decide (a<(0:Int))) (decide_eq_false (by omega))) (hk (lC (o:=3) lR gx rfl) (hk (bF (x:=decide (a<(0:Int))) (decide_eq_false (by omega))) (hk (bF (x:=decide (a<(0:Int))) (decide_eq_false (by omega))) (hk (bF (x:=decide (a<(0:Int))) (decide_eq_false (by omega))) (hk (bF (x:=decide (a>=(L:Int))) (decide_eq_false (by omega))) (hk (bF (x:=decide (a>=(L:Int))) (decide_eq_false (by omega))) (hk (lC (o:=3) lR gx rfl) (hk (bF (x:=decide (a>=(L:Int))) (decide_eq_false (by omega))) (hk (bF (x:=decide (a>=(L:Int))) (decide_eq_false (by omega))) (hk (qI a L (by omega) (by omega)) (hk (bF (x:=decide (a>=(L:Int))) (decide_eq_false (by omega))) (hk (bF (x:=decide (a>=(L:Int))) (decide_eq_false (by omega))) (hk (lD (aE X0 hld2)) (hk (bF (x:=decide (a>=(L:Int))) (decide_eq_false (by omega))) (hk (bF (x:=decide (a>=(L:Int))) (decide_eq_false (by omega))) (hk (bF (x:=decide (a>=(L:Int))) (decide_eq_false (by omega))) (hk (bF (x:=!(x_.f==(v:Int))) (by rw[hnear];exact fN _)) (hk (lC (o:=3) lR gx rfl) (hk (qI a L (by omega) (by omega)) (hk (lD (aE X0 hld3)) (hk (bF (x:=decide (x_.t<(0:Int))) (decide_eq_false (by omega))) (hk (bF (x:=decide (x_.t<(0:Int))) (decide_eq_false (by omega))) (hk (bF (x:=decide (x_.t<(0:Int))) (decide_eq_false (by omega))) (hk (lC (o:=0) cO gq rfl) (hk (bF (x:=decide (x_.t<(0:Int))) (decide_eq_false (by omega))) (hk (bF (x:=decide (x_.t<(0:Int))) (decide_eq_false (by omega))) (hk (bF (x:=decide (x_.t>=(n:Int))) (decide_eq_false (by omega))) (hk (bF (x:=decide (x_.t>=(n:Int))) (decide_eq_false (by omega))) (hk (bF (x:=decide (x_.t>=(n:Int))) (decide_eq_false (by omega))) (hk (bF (x:=decide (x_.t>=(n:Int))) (decide_eq_false (by omega))) (hk (bT (x:=!(x_.t==(v:Int))) (by rw[cc1];rfl)) (hk (bT (x:=!(x_.t==(v:Int))) (by rw[cc1];rfl)) (hk (lC (o:=2) hI gx rfl) (hk (bT (x:=!(x_.t==(v:Int))) (by rw[cc1];rfl)) (hk (bT (x:=!(x_.t==(v:Int))) (by rw[cc1];rfl)) (hk (qI x_.t n (by omega) (by omega)) (hk (bT (x:=!(x_.t==(v:Int))) (by rw[cc1];rfl)) (hk (lD (aE X0 hld4)) (hk (bT (x:=!(x_.t==(v:Int))) (by rw[cc1];rfl)) (hk (bF (x:=decide (x_.t>=(n:Int))) (decide_eq_false (by omega))) (hk (bT (x:=!(x_.t==(v:Int))) (by rw[cc1];rfl)) (hk (bF (x:=decide (x_.t>=(n:Int))) (decide_eq_false (by omega))) (hk (bT cc2) (hk (bT cc2) (hk (lC (o:=2) hI gx rfl) (hk (bT cc2) (hk (bT cc2) (hk (qI x_.t n (by omega) (by omega)) (hk (bT cc2) (hk (lD (aE X0 hld4)) (hk (bT cc2) (hk (bT cc2) (hk (lC (o:=2) hI gx rfl) (hk (bT cc2) (hk (bT cc2) (hk (qI (v:Int) n (by omega) (by omega)) (hk (bT cc2) (hk (lD (aE X0 hld5)) (hk (bT cc2) (hk (bF (x:=decide (x_.t>=(n:Int))) (decide_eq_false (by omega))) (hk (bT cc2) (hk (bF (x:=decide (x_.t>=(n:Int))) (decide_eq_false (by omega))) (hk (bF cc3) (hk (bF cc3) (hk (lC (o:=2) hI gx rfl) (hk (bF cc3) (hk (bF cc3) (hk (qI (v:Int) n (by omega) (by omega)) (hk (bF cc3) (hk (lD (aE X0 hld5)) (hk (bF cc3) (hk (bF cc3) (hk (bF cc4) (hk (bF cc4) (hk (bF cc4) (hk (bF cc4) (hk (bF cc4) (hk (bF cc4) (hk (bF cc3) (hk (bF cc4) (hk (bF cc3) hn)))))))))))))))))))))))))))))))))))))))))))))))))))))))))))))))))))))))))))))))))))))))))))))
theorem hru3(q x rb ro rc eb eo L ec ub uo uc wb wo m wc n v i:Nat)(u0 u1 u2 u3 u4 u5 ev:Value)(a rv ru:Int)(x_:A7){M:aA}{M0:aA}(X0:Ext M0 M)(hrb:rb<M0.next)(heb:eb<M0.next)(hub:ub<M0.next)(hwb:wb<M0.next)(gq:M.get q=some ⟨[i64 n,ev],26,2,0,true⟩)(gx:M.get x=some ⟨[u0,u1,aD rb ro n rc,aD eb eo L ec,aD ub uo n uc,u5],31,6,0,true⟩)(hvn:v<n)(ha:0<=a/\a<(L:Int))(hnear:x_.f=(v:Int))(hfar:0<=x_.t/\x_.t<(n:Int))(cc0:(decide ((i:Int)<(m:Int)))=true)(cc1:(x_.t==(v:Int))=false)(cc2:(decide (ru>=(0:Int)))=false)(cc3:(decide (rv<(0:Int)))=true)(hld0:aX Try.prog 22 ⟨ub,uo+((v:Int):Int).toNat*1,none⟩ M0=some (aD wb wo m wc))(hld1:aX Try.prog 3 ⟨wb,wo+((i:Int):Int).toNat*1,none⟩ M0=some (i64 a))(hld2:aX Try.prog 3 ⟨eb,eo+(a:Int).toNat*7,none⟩ M0=some (i64 x_.f))(hld3:aX Try.prog 3 ⟨eb,eo+(a:Int).toNat*7+1,none⟩ M0=some (i64 x_.t))(hld4:aX Try.prog 3 ⟨rb,ro+(x_.t:Int).toNat*1,none⟩ M0=some (i64 ru))(hld5:aX Try.prog 3 ⟨rb,ro+((v:Int):Int).toNat*1,none⟩ M0=some (i64 rv)): ∃T1,Rd Try.prog [] (q4.loopAt 4) Try.f4.ntmps (fr [(7,(pt q 0)),(8,(pt x 0)),(11,(i64 (v:Int))),(12,(i64 (i:Int)))]) M .normal T1 M/\ [7,8,11,12].map T1.get= [some (pt q 0),some (pt x 0),some (i64 (v:Int)),some (i64 (IntKind.wrap .i64 ((i:Int)+(1:Int))))]:=by
 exact Rd.told (tb:=[]) (n:=200) (F:=[aU 5 (aD ub uo n uc),aM 9,aU 11 (aD wb wo m wc),aM 16,aU 20 (aD ub uo n uc),aM 24,aU 26 (aD wb wo m wc),aM 30,aU 32 (i64 a),aO 41,aO 43,aO 45,aU 46 (aD eb eo L ec),aO 47,aO 49,aO 52,aO 55,aO 57,aU 58 (aD eb eo L ec),aO 59,aO 61,aM 62,aO 63,aO 65,aU 66 (i64 x_.f),aO 67,aO 69,aO 72,aO 73,aU 77 (aD eb eo L ec),aM 81,aU 85 (i64 x_.t),aO 94,aO 96,aO 98,aU 99 (i64 (n:Int)),aO 100,aO 103,aO 106,aO 108,aO 110,aO 112,aM 114,aM 116,aU 117 (aD rb ro n rc),aM 118,aM 120,aM 121,aM 122,aU 123 (i64 ru),aM 124,aO 126,aM 127,aO 128,aO 130,aO 132,aO 134,aO 136,aO 138,aO 140,aO 142,aO 144,aO 146,aO 148,aO 150,aO 152,aO 153,aO 155,aU 161 (aD rb ro n rc),aM 165,aU 167 (i64 rv),aM 172,aM 174,aU 175 (aD rb ro n rc),aM 176,aM 178,aM 179,aM 180,aU 181 (i64 ru),aM 182,aM 185,aO 188]) aJ aI (aG Try.prog) (fun _ _=>rfl) (by kernel_rfl) (hk (lC (o:=4) mB gx rfl) (hk (qI (v:Int) n (by omega) (by omega)) (hk (lD (aE X0 hld0)) (hk (bT cc0) (hk (lC (o:=4) mB gx rfl) (hk (qI (v:Int) n (by omega) (by omega)) (hk (lD (aE X0 hld0)) (hk (qI (i:Int) m (by omega) (by simp at cc0;omega)) (hk (lD (aE X0 hld1)) (hk (bF (x:=decide (a<(0:Int))) (decide_eq_false (by omega))) (hk (bF (x:=decide (a<(0:Int))) (decide_eq_false (by omega))) (hk (bF (x:=decide (a<(0:Int))) (decide_eq_false (by omega))) (hk (lC (o:=3) lR gx rfl) (hk (bF (x:=decide (a<(0:Int))) (decide_eq_false (by omega))) (hk (bF (x:=decide (a<(0:Int))) (decide_eq_false (by omega))) (hk (bF (x:=decide (a<(0:Int))) (decide_eq_false (by omega))) (hk (bF (x:=decide (a>=(L:Int))) (decide_eq_false (by omega))) (hk (bF (x:=decide (a>=(L:Int))) (decide_eq_false (by omega))) (hk (lC (o:=3) lR gx rfl) (hk (bF (x:=decide (a>=(L:Int))) (decide_eq_false (by omega))) (hk (bF (x:=decide (a>=(L:Int))) (decide_eq_false (by omega))) (hk (qI a L (by omega) (by omega)) (hk (bF (x:=decide (a>=(L:Int))) (decide_eq_false (by omega))) (hk (bF (x:=decide (a>=(L:Int))) (decide_eq_false (by omega))) (hk (lD (aE X0 hld2)) (hk (bF (x:=decide (a>=(L:Int))) (decide_eq_false (by omega))) (hk (bF (x:=decide (a>=(L:Int))) (decide_eq_false (by omega))) (hk (bF (x:=decide (a>=(L:Int))) (decide_eq_false (by omega))) (hk (bF (x:=!(x_.f==(v:Int))) (by rw[hnear];exact fN _)) (hk (lC (o:=3) lR gx rfl) (hk (qI a L (by omega) (by omega)) (hk (lD (aE X0 hld3)) (hk (bF (x:=decide (x_.t<(0:Int))) (decide_eq_false (by omega))) (hk (bF (x:=decide (x_.t<(0:Int))) (decide_eq_false (by omega))) (hk (bF (x:=decide (x_.t<(0:Int))) (decide_eq_false (by omega))) (hk (lC (o:=0) cO gq rfl) (hk (bF (x:=decide (x_.t<(0:Int))) (decide_eq_false (by omega))) (hk (bF (x:=decide (x_.t<(0:Int))) (decide_eq_false (by omega))) (hk (bF (x:=decide (x_.t>=(n:Int))) (decide_eq_false (by omega))) (hk (bF (x:=decide (x_.t>=(n:Int))) (decide_eq_false (by omega))) (hk (bF (x:=decide (x_.t>=(n:Int))) (decide_eq_false (by omega))) (hk (bF (x:=decide (x_.t>=(n:Int))) (decide_eq_false (by omega))) (hk (bT (x:=!(x_.t==(v:Int))) (by rw[cc1];rfl)) (hk (bT (x:=!(x_.t==(v:Int))) (by rw[cc1];rfl)) (hk (lC (o:=2) hI gx rfl) (hk (bT (x:=!(x_.t==(v:Int))) (by rw[cc1];rfl)) (hk (bT (x:=!(x_.t==(v:Int))) (by rw[cc1];rfl)) (hk (qI x_.t n (by omega) (by omega)) (hk (bT (x:=!(x_.t==(v:Int))) (by rw[cc1];rfl)) (hk (lD (aE X0 hld4)) (hk (bT (x:=!(x_.t==(v:Int))) (by rw[cc1];rfl)) (hk (bF (x:=decide (x_.t>=(n:Int))) (decide_eq_false (by omega))) (hk (bT (x:=!(x_.t==(v:Int))) (by rw[cc1];rfl)) (hk (bF (x:=decide (x_.t>=(n:Int))) (decide_eq_false (by omega))) (hk (bF cc2) (hk (bF cc2) (hk (bF cc2) (hk (bF cc2) (hk (bF cc2) (hk (bF cc2) (hk (bF cc2) (hk (bF cc2) (hk (bF cc2) (hk (bF cc2) (hk (bF cc2) (hk (bF (x:=decide (x_.t>=(n:Int))) (decide_eq_false (by omega))) (hk (bF cc2) (hk (bF (x:=decide (x_.t>=(n:Int))) (decide_eq_false (by omega))) (hk (lC (o:=2) hI gx rfl) (hk (qI (v:Int) n (by omega) (by omega)) (hk (lD (aE X0 hld5)) (hk (bT cc3) (hk (bT cc3) (hk (lC (o:=2) hI gx rfl) (hk (bT cc3) (hk (bT cc3) (hk (qI x_.t n (by omega) (by omega)) (hk (bT cc3) (hk (lD (aE X0 hld4)) (hk (bT cc3) (hk (bT cc3) (hk (bF cc2) hn))))))))))))))))))))))))))))))))))))))))))))))))))))))))))))))))))))))))))))))))))
theorem hru4(q x rb ro rc eb eo L ec ub uo uc wb wo m wc n v i:Nat)(u0 u1 u2 u3 u4 u5 ev:Value)(a rv ru:Int)(x_:A7){M:aA}{M0:aA}(X0:Ext M0 M)(hrb:rb<M0.next)(heb:eb<M0.next)(hub:ub<M0.next)(hwb:wb<M0.next)(gq:M.get q=some ⟨[i64 n,ev],26,2,0,true⟩)(gx:M.get x=some ⟨[u0,u1,aD rb ro n rc,aD eb eo L ec,aD ub uo n uc,u5],31,6,0,true⟩)(hvn:v<n)(ha:0<=a/\a<(L:Int))(hnear:x_.f=(v:Int))(hfar:0<=x_.t/\x_.t<(n:Int))(cc0:(decide ((i:Int)<(m:Int)))=true)(cc1:(x_.t==(v:Int))=false)(cc2:(decide (ru>=(0:Int)))=false)(cc3:(decide (rv<(0:Int)))=false)(hld0:aX Try.prog 22 ⟨ub,uo+((v:Int):Int).toNat*1,none⟩ M0=some (aD wb wo m wc))(hld1:aX Try.prog 3 ⟨wb,wo+((i:Int):Int).toNat*1,none⟩ M0=some (i64 a))(hld2:aX Try.prog 3 ⟨eb,eo+(a:Int).toNat*7,none⟩ M0=some (i64 x_.f))(hld3:aX Try.prog 3 ⟨eb,eo+(a:Int).toNat*7+1,none⟩ M0=some (i64 x_.t))(hld4:aX Try.prog 3 ⟨rb,ro+(x_.t:Int).toNat*1,none⟩ M0=some (i64 ru))(hld5:aX Try.prog 3 ⟨rb,ro+((v:Int):Int).toNat*1,none⟩ M0=some (i64 rv)): ∃T1,Rd Try.prog [] (q4.loopAt 4) Try.f4.ntmps (fr [(7,(pt q 0)),(8,(pt x 0)),(11,(i64 (v:Int))),(12,(i64 (i:Int)))]) M .normal T1 M/\ [7,8,11,12].map T1.get= [some (pt q 0),some (pt x 0),some (i64 (v:Int)),some (i64 (IntKind.wrap .i64 ((i:Int)+(1:Int))))]:=by
 exact Rd.told (tb:=[]) (n:=200) (F:=[aU 5 (aD ub uo n uc),aM 9,aU 11 (aD wb wo m wc),aM 16,aU 20 (aD ub uo n uc),aM 24,aU 26 (aD wb wo m wc),aM 30,aU 32 (i64 a),aO 41,aO 43,aO 45,aU 46 (aD eb eo L ec),aO 47,aO 49,aO 52,aO 55,aO 57,aU 58 (aD eb eo L ec),aO 59,aO 61,aM 62,aO 63,aO 65,aU 66 (i64 x_.f),aO 67,aO 69,aO 72,aO 73,aU 77 (aD eb eo L ec),aM 81,aU 85 (i64 x_.t),aO 94,aO 96,aO 98,aU 99 (i64 (n:Int)),aO 100,aO 103,aO 106,aO 108,aO 110,aO 112,aM 114,aM 116,aU 117 (aD rb ro n rc),aM 118,aM 120,aM 121,aM 122,aU 123 (i64 ru),aM 124,aO 126,aM 127,aO 128,aO 130,aO 132,aO 134,aO 136,aO 138,aO 140,aO 142,aO 144,aO 146,aO 148,aO 150,aO 152,aO 153,aO 155,aU 161 (aD rb ro n rc),aM 165,aU 167 (i64 rv),aO 172,aO 174,aO 176,aO 178,aO 180,aO 182,aO 185]) aJ aI (aG Try.prog) (fun _ _=>rfl) (by kernel_rfl) (hk (lC (o:=4) mB gx rfl) (hk (qI (v:Int) n (by omega) (by omega)) (hk (lD (aE X0 hld0)) (hk (bT cc0) (hk (lC (o:=4) mB gx rfl) (hk (qI (v:Int) n (by omega) (by omega)) (hk (lD (aE X0 hld0)) (hk (qI (i:Int) m (by omega) (by simp at cc0;omega)) (hk (lD (aE X0 hld1)) (hk (bF (x:=decide (a<(0:Int))) (decide_eq_false (by omega))) (hk (bF (x:=decide (a<(0:Int))) (decide_eq_false (by omega))) (hk (bF (x:=decide (a<(0:Int))) (decide_eq_false (by omega))) (hk (lC (o:=3) lR gx rfl) (hk (bF (x:=decide (a<(0:Int))) (decide_eq_false (by omega))) (hk (bF (x:=decide (a<(0:Int))) (decide_eq_false (by omega))) (hk (bF (x:=decide (a<(0:Int))) (decide_eq_false (by omega))) (hk (bF (x:=decide (a>=(L:Int))) (decide_eq_false (by omega))) (hk (bF (x:=decide (a>=(L:Int))) (decide_eq_false (by omega))) (hk (lC (o:=3) lR gx rfl) (hk (bF (x:=decide (a>=(L:Int))) (decide_eq_false (by omega))) (hk (bF (x:=decide (a>=(L:Int))) (decide_eq_false (by omega))) (hk (qI a L (by omega) (by omega)) (hk (bF (x:=decide (a>=(L:Int))) (decide_eq_false (by omega))) (hk (bF (x:=decide (a>=(L:Int))) (decide_eq_false (by omega))) (hk (lD (aE X0 hld2)) (hk (bF (x:=decide (a>=(L:Int))) (decide_eq_false (by omega))) (hk (bF (x:=decide (a>=(L:Int))) (decide_eq_false (by omega))) (hk (bF (x:=decide (a>=(L:Int))) (decide_eq_false (by omega))) (hk (bF (x:=!(x_.f==(v:Int))) (by rw[hnear];exact fN _)) (hk (lC (o:=3) lR gx rfl) (hk (qI a L (by omega) (by omega)) (hk (lD (aE X0 hld3)) (hk (bF (x:=decide (x_.t<(0:Int))) (decide_eq_false (by omega))) (hk (bF (x:=decide (x_.t<(0:Int))) (decide_eq_false (by omega))) (hk (bF (x:=decide (x_.t<(0:Int))) (decide_eq_false (by omega))) (hk (lC (o:=0) cO gq rfl) (hk (bF (x:=decide (x_.t<(0:Int))) (decide_eq_false (by omega))) (hk (bF (x:=decide (x_.t<(0:Int))) (decide_eq_false (by omega))) (hk (bF (x:=decide (x_.t>=(n:Int))) (decide_eq_false (by omega))) (hk (bF (x:=decide (x_.t>=(n:Int))) (decide_eq_false (by omega))) (hk (bF (x:=decide (x_.t>=(n:Int))) (decide_eq_false (by omega))) (hk (bF (x:=decide (x_.t>=(n:Int))) (decide_eq_false (by omega))) (hk (bT (x:=!(x_.t==(v:Int))) (by rw[cc1];rfl)) (hk (bT (x:=!(x_.t==(v:Int))) (by rw[cc1];rfl)) (hk (lC (o:=2) hI gx rfl) (hk (bT (x:=!(x_.t==(v:Int))) (by rw[cc1];rfl)) (hk (bT (x:=!(x_.t==(v:Int))) (by rw[cc1];rfl)) (hk (qI x_.t n (by omega) (by omega)) (hk (bT (x:=!(x_.t==(v:Int))) (by rw[cc1];rfl)) (hk (lD (aE X0 hld4)) (hk (bT (x:=!(x_.t==(v:Int))) (by rw[cc1];rfl)) (hk (bF (x:=decide (x_.t>=(n:Int))) (decide_eq_false (by omega))) (hk (bT (x:=!(x_.t==(v:Int))) (by rw[cc1];rfl)) (hk (bF (x:=decide (x_.t>=(n:Int))) (decide_eq_false (by omega))) (hk (bF cc2) (hk (bF cc2) (hk (bF cc2) (hk (bF cc2) (hk (bF cc2) (hk (bF cc2) (hk (bF cc2) (hk (bF cc2) (hk (bF cc2) (hk (bF cc2) (hk (bF cc2) (hk (bF (x:=decide (x_.t>=(n:Int))) (decide_eq_false (by omega))) (hk (bF cc2) (hk (bF (x:=decide (x_.t>=(n:Int))) (decide_eq_false (by omega))) (hk (lC (o:=2) hI gx rfl) (hk (qI (v:Int) n (by omega) (by omega)) (hk (lD (aE X0 hld5)) (hk (bF cc3) (hk (bF cc3) (hk (bF cc3) (hk (bF cc3) (hk (bF cc3) (hk (bF cc3) (hk (bF cc3) hn))))))))))))))))))))))))))))))))))))))))))))))))))))))))))))))))))))))))))))))
theorem hrux(q x rb ro rc ub uo uc m wc n v i:Nat)(wa:Option Addr)(AV:Value)(u0 u1 u2 u3 u4 u5 ev:Value){M:aA}{M0:aA}(X0:Ext M0 M)(hln:wa.isNone=true->m=0/\wc=0)(hub:ub<M0.next)(gq:M.get q=some ⟨[i64 n,ev],26,2,0,true⟩)(gx:M.get x=some ⟨[u0,u1,aD rb ro n rc,AV,aD ub uo n uc,u5],31,6,0,true⟩)(hvn:v<n)(cc0:(decide ((i:Int)<(m:Int)))=false)(hld0:aX Try.prog 22 ⟨ub,uo+((v:Int):Int).toNat*1,none⟩ M0=some (.slice wa m wc)): ∃T1,Rd Try.prog [] (q4.loopAt 4) Try.f4.ntmps (fr [(7,(pt q 0)),(8,(pt x 0)),(11,(i64 (v:Int))),(12,(i64 (i:Int)))]) M (.exit 4) T1 M/\ [7,8,11].map T1.get= [some (pt q 0),some (pt x 0),some (i64 (v:Int))]:=by
 exact Rd.told (tb:=[]) (n:=60) (F:=[aU 5 (aD ub uo n uc),aM 9,aU 11 (.slice wa m wc),aM 13,aO 16]) aJ aI (aG Try.prog) (fun _ _=>rfl) (by kernel_rfl) (hk (lC (o:=4) mB gx rfl) (hk (qI (v:Int) n (by omega) (by omega)) (hk (lD (aE X0 hld0)) (hk (lN hln) (hk (bF cc0) hn)))))
theorem hrd0(q x rb ro rc eb eo L ec ub uo uc wb wo m wc n v i:Nat)(u0 u1 u2 u3 u4 u5 ev:Value)(a rv ru:Int)(x_:A7){M:aA}{M0:aA}(X0:Ext M0 M)(hrb:rb<M0.next)(heb:eb<M0.next)(hub:ub<M0.next)(hwb:wb<M0.next)(gq:M.get q=some ⟨[i64 n,ev],26,2,0,true⟩)(gx:M.get x=some ⟨[u0,u1,aD rb ro n rc,aD eb eo L ec,u4,aD ub uo n uc],31,6,0,true⟩)(hvn:v<n)(ha:0<=a/\a<(L:Int))(hnear:x_.t=(v:Int))(hfar:0<=x_.f/\x_.f<(n:Int))(hrv:0<=rv)(cc0:(decide ((i:Int)<(m:Int)))=true)(cc1:(decide (rv<(0:Int)))=false)(cc2:(decide (ru>=(0:Int)))=true)(cc3:(decide (ru<=rv))=false)(hld0:aX Try.prog 22 ⟨ub,uo+((v:Int):Int).toNat*1,none⟩ M0=some (aD wb wo m wc))(hld1:aX Try.prog 3 ⟨wb,wo+((i:Int):Int).toNat*1,none⟩ M0=some (i64 a))(hld2:aX Try.prog 3 ⟨eb,eo+(a:Int).toNat*7+1,none⟩ M0=some (i64 x_.t))(hld3:aX Try.prog 3 ⟨rb,ro+((v:Int):Int).toNat*1,none⟩ M0=some (i64 rv))(hld4:aX Try.prog 3 ⟨eb,eo+(a:Int).toNat*7,none⟩ M0=some (i64 x_.f))(hld5:aX Try.prog 3 ⟨rb,ro+(x_.f:Int).toNat*1,none⟩ M0=some (i64 ru)): ∃T1,Rd Try.prog [] (q4.loopAt 6) Try.f4.ntmps (fr [(7,(pt q 0)),(8,(pt x 0)),(11,(i64 (v:Int))),(15,(i64 (i:Int)))]) M .normal T1 M/\ [7,8,11,15].map T1.get= [some (pt q 0),some (pt x 0),some (i64 (v:Int)),some (i64 (IntKind.wrap .i64 ((i:Int)+(1:Int))))]:=by
 exact Rd.told (tb:=[]) (n:=200) (F:=[aU 5 (aD ub uo n uc),aM 9,aU 11 (aD wb wo m wc),aM 16,aU 20 (aD ub uo n uc),aM 24,aU 26 (aD wb wo m wc),aM 30,aU 32 (i64 a),aO 41,aO 43,aO 45,aU 46 (aD eb eo L ec),aO 47,aO 49,aO 52,aO 55,aO 57,aU 58 (aD eb eo L ec),aO 59,aO 61,aM 62,aO 63,aO 65,aU 66 (i64 x_.t),aO 67,aO 69,aO 72,aO 75,aO 77,aU 78 (aD rb ro n rc),aO 79,aO 81,aM 82,aO 83,aU 84 (i64 rv),aO 85,aO 88,aO 89,aU 93 (aD eb eo L ec),aM 97,aU 101 (i64 x_.f),aO 110,aO 112,aO 114,aU 115 (i64 (n:Int)),aO 116,aO 119,aO 122,aO 124,aU 125 (aD rb ro n rc),aO 126,aO 128,aM 129,aO 130,aU 131 (i64 ru),aO 132,aO 134,aM 136,aM 138,aU 139 (aD rb ro n rc),aM 140,aM 142,aM 143,aM 144,aU 145 (i64 ru),aM 146,aM 148,aU 149 (aD rb ro n rc),aM 150,aM 152,aM 153,aM 154,aU 155 (i64 rv),aM 156,aO 158,aM 159,aO 161,aO 162]) aJ aI (aG Try.prog) (fun _ _=>rfl) (by kernel_rfl) (hk (lC (o:=5) mB gx rfl) (hk (qI (v:Int) n (by omega) (by omega)) (hk (lD (aE X0 hld0)) (hk (bT cc0) (hk (lC (o:=5) mB gx rfl) (hk (qI (v:Int) n (by omega) (by omega)) (hk (lD (aE X0 hld0)) (hk (qI (i:Int) m (by omega) (by simp at cc0;omega)) (hk (lD (aE X0 hld1)) (hk (bF (x:=decide (a<(0:Int))) (decide_eq_false (by omega))) (hk (bF (x:=decide (a<(0:Int))) (decide_eq_false (by omega))) (hk (bF (x:=decide (a<(0:Int))) (decide_eq_false (by omega))) (hk (lC (o:=3) lR gx rfl) (hk (bF (x:=decide (a<(0:Int))) (decide_eq_false (by omega))) (hk (bF (x:=decide (a<(0:Int))) (decide_eq_false (by omega))) (hk (bF (x:=decide (a<(0:Int))) (decide_eq_false (by omega))) (hk (bF (x:=decide (a>=(L:Int))) (decide_eq_false (by omega))) (hk (bF (x:=decide (a>=(L:Int))) (decide_eq_false (by omega))) (hk (lC (o:=3) lR gx rfl) (hk (bF (x:=decide (a>=(L:Int))) (decide_eq_false (by omega))) (hk (bF (x:=decide (a>=(L:Int))) (decide_eq_false (by omega))) (hk (qI a L (by omega) (by omega)) (hk (bF (x:=decide (a>=(L:Int))) (decide_eq_false (by omega))) (hk (bF (x:=decide (a>=(L:Int))) (decide_eq_false (by omega))) (hk (lD (aE X0 hld2)) (hk (bF (x:=decide (a>=(L:Int))) (decide_eq_false (by omega))) (hk (bF (x:=decide (a>=(L:Int))) (decide_eq_false (by omega))) (hk (bF (x:=decide (a>=(L:Int))) (decide_eq_false (by omega))) (hk (bF (x:=!(x_.t==(v:Int))) (by rw[hnear];exact fN _)) (hk (bF (x:=!(x_.t==(v:Int))) (by rw[hnear];exact fN _)) (hk (lC (o:=2) hI gx rfl) (hk (bF (x:=!(x_.t==(v:Int))) (by rw[hnear];exact fN _)) (hk (bF (x:=!(x_.t==(v:Int))) (by rw[hnear];exact fN _)) (hk (qI (v:Int) n (by omega) (by omega)) (hk (bF (x:=!(x_.t==(v:Int))) (by rw[hnear];exact fN _)) (hk (lD (aE X0 hld3)) (hk (bF (x:=!(x_.t==(v:Int))) (by rw[hnear];exact fN _)) (hk (bF (x:=!(x_.t==(v:Int))) (by rw[hnear];exact fN _)) (hk (bF cc1) (hk (lC (o:=3) lR gx rfl) (hk (qI a L (by omega) (by omega)) (hk (lD (aE X0 hld4)) (hk (bF (x:=decide (x_.f<(0:Int))) (decide_eq_false (by omega))) (hk (bF (x:=decide (x_.f<(0:Int))) (decide_eq_false (by omega))) (hk (bF (x:=decide (x_.f<(0:Int))) (decide_eq_false (by omega))) (hk (lC (o:=0) cO gq rfl) (hk (bF (x:=decide (x_.f<(0:Int))) (decide_eq_false (by omega))) (hk (bF (x:=decide (x_.f<(0:Int))) (decide_eq_false (by omega))) (hk (bF (x:=decide (x_.f>=(n:Int))) (decide_eq_false (by omega))) (hk (bF (x:=decide (x_.f>=(n:Int))) (decide_eq_false (by omega))) (hk (lC (o:=2) hI gx rfl) (hk (bF (x:=decide (x_.f>=(n:Int))) (decide_eq_false (by omega))) (hk (bF (x:=decide (x_.f>=(n:Int))) (decide_eq_false (by omega))) (hk (qI x_.f n (by omega) (by omega)) (hk (bF (x:=decide (x_.f>=(n:Int))) (decide_eq_false (by omega))) (hk (lD (aE X0 hld5)) (hk (bF (x:=decide (x_.f>=(n:Int))) (decide_eq_false (by omega))) (hk (bF (x:=decide (x_.f>=(n:Int))) (decide_eq_false (by omega))) (hk (bT cc2) (hk (bT cc2) (hk (lC (o:=2) hI gx rfl) (hk (bT cc2) (hk (bT cc2) (hk (qI x_.f n (by omega) (by omega)) (hk (bT cc2) (hk (lD (aE X0 hld5)) (hk (bT cc2) (hk (bT cc2) (hk (lC (o:=2) hI gx rfl) (hk (bT cc2) (hk (bT cc2) (hk (qI (v:Int) n (by omega) (by omega)) (hk (bT cc2) (hk (lD (aE X0 hld3)) (hk (bT cc2) (hk (bF (x:=decide (x_.f>=(n:Int))) (decide_eq_false (by omega))) (hk (bT cc2) (hk (bF (x:=decide (x_.f>=(n:Int))) (decide_eq_false (by omega))) (hk (bF cc3) hn)))))))))))))))))))))))))))))))))))))))))))))))))))))))))))))))))))))))))))))))
theorem hrd1(q x rb ro rc eb eo L ec ub uo uc wb wo m wc n v i:Nat)(u0 u1 u2 u3 u4 u5 ev:Value)(a rv ru:Int)(x_:A7){M:aA}{M0:aA}(X0:Ext M0 M)(hrb:rb<M0.next)(heb:eb<M0.next)(hub:ub<M0.next)(hwb:wb<M0.next)(gq:M.get q=some ⟨[i64 n,ev],26,2,0,true⟩)(gx:M.get x=some ⟨[u0,u1,aD rb ro n rc,aD eb eo L ec,u4,aD ub uo n uc],31,6,0,true⟩)(hvn:v<n)(ha:0<=a/\a<(L:Int))(hnear:x_.t=(v:Int))(hfar:0<=x_.f/\x_.f<(n:Int))(hrv:0<=rv)(cc0:(decide ((i:Int)<(m:Int)))=true)(cc1:(decide (rv<(0:Int)))=false)(cc2:(decide (ru>=(0:Int)))=false)(hld0:aX Try.prog 22 ⟨ub,uo+((v:Int):Int).toNat*1,none⟩ M0=some (aD wb wo m wc))(hld1:aX Try.prog 3 ⟨wb,wo+((i:Int):Int).toNat*1,none⟩ M0=some (i64 a))(hld2:aX Try.prog 3 ⟨eb,eo+(a:Int).toNat*7+1,none⟩ M0=some (i64 x_.t))(hld3:aX Try.prog 3 ⟨rb,ro+((v:Int):Int).toNat*1,none⟩ M0=some (i64 rv))(hld4:aX Try.prog 3 ⟨eb,eo+(a:Int).toNat*7,none⟩ M0=some (i64 x_.f))(hld5:aX Try.prog 3 ⟨rb,ro+(x_.f:Int).toNat*1,none⟩ M0=some (i64 ru)): ∃T1,Rd Try.prog [] (q4.loopAt 6) Try.f4.ntmps (fr [(7,(pt q 0)),(8,(pt x 0)),(11,(i64 (v:Int))),(15,(i64 (i:Int)))]) M .normal T1 M/\ [7,8,11,15].map T1.get= [some (pt q 0),some (pt x 0),some (i64 (v:Int)),some (i64 (IntKind.wrap .i64 ((i:Int)+(1:Int))))]:=by
 exact Rd.told (tb:=[]) (n:=200) (F:=[aU 5 (aD ub uo n uc),aM 9,aU 11 (aD wb wo m wc),aM 16,aU 20 (aD ub uo n uc),aM 24,aU 26 (aD wb wo m wc),aM 30,aU 32 (i64 a),aO 41,aO 43,aO 45,aU 46 (aD eb eo L ec),aO 47,aO 49,aO 52,aO 55,aO 57,aU 58 (aD eb eo L ec),aO 59,aO 61,aM 62,aO 63,aO 65,aU 66 (i64 x_.t),aO 67,aO 69,aO 72,aO 75,aO 77,aU 78 (aD rb ro n rc),aO 79,aO 81,aM 82,aO 83,aU 84 (i64 rv),aO 85,aO 88,aO 89,aU 93 (aD eb eo L ec),aM 97,aU 101 (i64 x_.f),aO 110,aO 112,aO 114,aU 115 (i64 (n:Int)),aO 116,aO 119,aO 122,aO 124,aU 125 (aD rb ro n rc),aO 126,aO 128,aM 129,aO 130,aU 131 (i64 ru),aO 132,aO 134,aO 136,aO 138,aO 140,aO 142,aO 144,aO 146,aO 148,aO 150,aO 152,aO 154,aO 156,aO 158,aO 159,aO 161]) aJ aI (aG Try.prog) (fun _ _=>rfl) (by kernel_rfl) (hk (lC (o:=5) mB gx rfl) (hk (qI (v:Int) n (by omega) (by omega)) (hk (lD (aE X0 hld0)) (hk (bT cc0) (hk (lC (o:=5) mB gx rfl) (hk (qI (v:Int) n (by omega) (by omega)) (hk (lD (aE X0 hld0)) (hk (qI (i:Int) m (by omega) (by simp at cc0;omega)) (hk (lD (aE X0 hld1)) (hk (bF (x:=decide (a<(0:Int))) (decide_eq_false (by omega))) (hk (bF (x:=decide (a<(0:Int))) (decide_eq_false (by omega))) (hk (bF (x:=decide (a<(0:Int))) (decide_eq_false (by omega))) (hk (lC (o:=3) lR gx rfl) (hk (bF (x:=decide (a<(0:Int))) (decide_eq_false (by omega))) (hk (bF (x:=decide (a<(0:Int))) (decide_eq_false (by omega))) (hk (bF (x:=decide (a<(0:Int))) (decide_eq_false (by omega))) (hk (bF (x:=decide (a>=(L:Int))) (decide_eq_false (by omega))) (hk (bF (x:=decide (a>=(L:Int))) (decide_eq_false (by omega))) (hk (lC (o:=3) lR gx rfl) (hk (bF (x:=decide (a>=(L:Int))) (decide_eq_false (by omega))) (hk (bF (x:=decide (a>=(L:Int))) (decide_eq_false (by omega))) (hk (qI a L (by omega) (by omega)) (hk (bF (x:=decide (a>=(L:Int))) (decide_eq_false (by omega))) (hk (bF (x:=decide (a>=(L:Int))) (decide_eq_false (by omega))) (hk (lD (aE X0 hld2)) (hk (bF (x:=decide (a>=(L:Int))) (decide_eq_false (by omega))) (hk (bF (x:=decide (a>=(L:Int))) (decide_eq_false (by omega))) (hk (bF (x:=decide (a>=(L:Int))) (decide_eq_false (by omega))) (hk (bF (x:=!(x_.t==(v:Int))) (by rw[hnear];exact fN _)) (hk (bF (x:=!(x_.t==(v:Int))) (by rw[hnear];exact fN _)) (hk (lC (o:=2) hI gx rfl) (hk (bF (x:=!(x_.t==(v:Int))) (by rw[hnear];exact fN _)) (hk (bF (x:=!(x_.t==(v:Int))) (by rw[hnear];exact fN _)) (hk (qI (v:Int) n (by omega) (by omega)) (hk (bF (x:=!(x_.t==(v:Int))) (by rw[hnear];exact fN _)) (hk (lD (aE X0 hld3)) (hk (bF (x:=!(x_.t==(v:Int))) (by rw[hnear];exact fN _)) (hk (bF (x:=!(x_.t==(v:Int))) (by rw[hnear];exact fN _)) (hk (bF cc1) (hk (lC (o:=3) lR gx rfl) (hk (qI a L (by omega) (by omega)) (hk (lD (aE X0 hld4)) (hk (bF (x:=decide (x_.f<(0:Int))) (decide_eq_false (by omega))) (hk (bF (x:=decide (x_.f<(0:Int))) (decide_eq_false (by omega))) (hk (bF (x:=decide (x_.f<(0:Int))) (decide_eq_false (by omega))) (hk (lC (o:=0) cO gq rfl) (hk (bF (x:=decide (x_.f<(0:Int))) (decide_eq_false (by omega))) (hk (bF (x:=decide (x_.f<(0:Int))) (decide_eq_false (by omega))) (hk (bF (x:=decide (x_.f>=(n:Int))) (decide_eq_false (by omega))) (hk (bF (x:=decide (x_.f>=(n:Int))) (decide_eq_false (by omega))) (hk (lC (o:=2) hI gx rfl) (hk (bF (x:=decide (x_.f>=(n:Int))) (decide_eq_false (by omega))) (hk (bF (x:=decide (x_.f>=(n:Int))) (decide_eq_false (by omega))) (hk (qI x_.f n (by omega) (by omega)) (hk (bF (x:=decide (x_.f>=(n:Int))) (decide_eq_false (by omega))) (hk (lD (aE X0 hld5)) (hk (bF (x:=decide (x_.f>=(n:Int))) (decide_eq_false (by omega))) (hk (bF (x:=decide (x_.f>=(n:Int))) (decide_eq_false (by omega))) (hk (bF cc2) (hk (bF cc2) (hk (bF cc2) (hk (bF cc2) (hk (bF cc2) (hk (bF cc2) (hk (bF cc2) (hk (bF cc2) (hk (bF cc2) (hk (bF cc2) (hk (bF cc2) (hk (bF (x:=decide (x_.f>=(n:Int))) (decide_eq_false (by omega))) (hk (bF cc2) (hk (bF (x:=decide (x_.f>=(n:Int))) (decide_eq_false (by omega))) hn))))))))))))))))))))))))))))))))))))))))))))))))))))))))))))))))))))))))
theorem hrdx(q x rb ro rc ub uo uc m wc n v i:Nat)(wa:Option Addr)(AV:Value)(u0 u1 u2 u3 u4 u5 ev:Value){M:aA}{M0:aA}(X0:Ext M0 M)(hln:wa.isNone=true->m=0/\wc=0)(hub:ub<M0.next)(gq:M.get q=some ⟨[i64 n,ev],26,2,0,true⟩)(gx:M.get x=some ⟨[u0,u1,aD rb ro n rc,AV,u4,aD ub uo n uc],31,6,0,true⟩)(hvn:v<n)(cc0:(decide ((i:Int)<(m:Int)))=false)(hld0:aX Try.prog 22 ⟨ub,uo+((v:Int):Int).toNat*1,none⟩ M0=some (.slice wa m wc)): ∃T1,Rd Try.prog [] (q4.loopAt 6) Try.f4.ntmps (fr [(7,(pt q 0)),(8,(pt x 0)),(11,(i64 (v:Int))),(15,(i64 (i:Int)))]) M (.exit 6) T1 M/\ [7,8,11].map T1.get= [some (pt q 0),some (pt x 0),some (i64 (v:Int))]:=by
 exact Rd.told (tb:=[]) (n:=60) (F:=[aU 5 (aD ub uo n uc),aM 9,aU 11 (.slice wa m wc),aM 13,aO 16]) aJ aI (aG Try.prog) (fun _ _=>rfl) (by kernel_rfl) (hk (lC (o:=5) mB gx rfl) (hk (qI (v:Int) n (by omega) (by omega)) (hk (lD (aE X0 hld0)) (hk (lN hln) (hk (bF cc0) hn)))))
theorem Wg{q x rb ro rc ec ub uc db dc n:Nat}{ae:Option Addr}{u1 ev:Value}{rank:List Int}{arcs:List A7}{up down:List (List Int)}{M0:aA}{M:aA}(hrk:aP rank (aD rb ro n rc) M0)(har:iU arcs (.slice ae arcs.length ec) M0)(hup:bI up (aD ub 0 n uc) M0)(hdn:bI down (aD db 0 n dc) M0)(hM:aB M)(X0:Ext M0 M)(hG:M.get q=some ⟨[i64 n,ev],26,2,0,true⟩/\M.get x=some ⟨[i64 n,u1,aD rb ro n rc,.slice ae arcs.length ec,aD ub 0 n uc,aD db 0 n dc],31,6,0,true⟩){v:Nat}{r:List Int}{rv:Int}(hv:v<n)(hrow:up[v]?=some r)(hrv:rank[v]?=some rv)(hP: ∀a∈r,0<=a/\ ∃x_ ru,arcs[a.toNat]?=some x_/\x_.f=(v:Int)/\(0<=x_.t/\x_.t<n)/\rank[x_.t.toNat]?=some ru/\(x_.t=(v:Int)\/ru<0\/rv<ru)/\(0<=rv\/ru<0)):
  ∃M',bJ Try.prog [] (q4.loopAt 4) Try.f4.ntmps (fr [(7,pt q 0),(8,pt x 0),(11,i64 v),(12,i64 ((0:Nat):Int))]) M (.exit 4) (fr [(7,pt q 0),(8,pt x 0),(11,i64 v)]) M'/\Ext M0 M'/\aB M'/\M'.get q=some ⟨[i64 n,ev],26,2,0,true⟩/\M'.get x=some ⟨[i64 n,u1,aD rb ro n rc,.slice ae arcs.length ec,aD ub 0 n uc,aD db 0 n dc],31,6,0,true⟩:=by
 obtain⟨wa,wc,lw,hw⟩:=Bp (P:=Try.prog) (ty:=22) hup hrow hI
 have a2:ub<M0.next:=by obtain⟨E,c,blk,e1,e2,_⟩:=hup;simp only [Value.slice.injEq,Option.some.injEq,Addr.mk.injEq,and_true] at e1;rw[e1.1];exact aA.lt_of_get e2
 have hlen:=hw.len
 obtain⟨_,M',k1,k2,k3,k4⟩:=bJ.for (P:=Try.prog) (GL:= []) (b:=q4.loopAt 4) (nt:=Try.f4.ntmps) (id:=4) (σ:=Unit) (n:=r.length) (Inv:=fun i _ M1=>Ext M0 M1/\aB M1/\M1.get q=some ⟨[i64 n,ev],26,2,0,true⟩/\M1.get x=some ⟨[i64 n,u1,aD rb ro n rc,.slice ae arcs.length ec,aD ub 0 n uc,aD db 0 n dc],31,6,0,true⟩)
  (F:=fun i _=> [(7,pt q 0),(8,pt x 0),(11,i64 v),(12,i64 ((i:Nat):Int))]) (O:=fun _=> [(7,pt q 0),(8,pt x 0),(11,i64 v)])
  (by
   rintro i _ M1 hi ⟨X1,a7,a0,a1⟩
   obtain⟨wb,wo,rfl,_⟩:=cD hw (by omega)
   have ht:r[i]?=some r[i]:=List.getElem?_eq_getElem hi
   obtain⟨a3,x_,ru,hax,hnear,hfar,hru,a8,a9⟩:=hP r[i] (List.getElem_mem hi)
   have haL:=(List.getElem?_eq_some_iff.1 hax).1
   obtain⟨eb,eo,rfl,_⟩:=cD har (by omega)
   have l1:=iC (P:=Try.prog) (ty:=3) hw ht rfl cO
   have l2:=iL (P:=Try.prog) (ty:=3) (j:=0) har hax rfl cO
   have l3:=iL (P:=Try.prog) (ty:=3) (j:=1) har hax rfl cO
   have l4:=iC (P:=Try.prog) (ty:=3) hrk hrv rfl cO
   have l5:=iC (P:=Try.prog) (ty:=3) hrk hru rfl cO
   have a4:=Go.Am.oH hrk (by have:=(List.getElem?_eq_some_iff.1 hrv).1;omega)
   have a5:=Go.Am.oH har (by omega)
   have a6:=Go.Am.oH hw (by omega)
   have done:(∃T1,Rd Try.prog [] (q4.loopAt 4) Try.f4.ntmps (fr [(7,pt q 0),(8,pt x 0),(11,i64 v),(12,i64 i)]) M1 .normal T1 M1/\ [7,8,11,12].map T1.get= [some (pt q 0),some (pt x 0),some (i64 v),some (i64 (IntKind.wrap .i64 ((i:Int)+(1:Int))))]):=by
    by_cases huv:x_.t=(v:Int)
    ·have e0:ru=rv:=by rw[huv,Int.toNat_natCast,hrv] at hru;exact(Option.some.inj hru).symm
     have hb:(x_.t==(v:Int))=true:=by rw[huv];exact beq_self_eq_true _
     by_cases h1:rv<0
     ·exact hru0 q x rb ro rc eb eo arcs.length ec ub 0 uc wb wo r.length wc n v i (i64 n) u1 cI cI cI (aD db 0 n dc) ev r[i] rv ru x_ (M:=M1) X1 a4 a5 a2 a6 a0 a1 hv ⟨a3,by omega⟩ hnear hfar (decide_eq_true (by omega)) hb (decide_eq_true (by omega)) (decide_eq_false (by omega)) (by rw[Int.toNat_natCast];exact lw) (by rw[Int.toNat_natCast];exact l1) l2 l3 (by rw[Int.toNat_natCast];exact l4) l5
     ·exact hru1 q x rb ro rc eb eo arcs.length ec ub 0 uc wb wo r.length wc n v i (i64 n) u1 cI cI cI (aD db 0 n dc) ev r[i] rv ru x_ (M:=M1) X1 a4 a5 a2 a6 a0 a1 hv ⟨a3,by omega⟩ hnear hfar (decide_eq_true (by omega)) hb (decide_eq_false (by omega)) (by rw[Int.toNat_natCast];exact lw) (by rw[Int.toNat_natCast];exact l1) l2 l3 (by rw[Int.toNat_natCast];exact l4)
    ·have hb:(x_.t==(v:Int))=false:=beq_eq_false_iff_ne.2 huv
     by_cases h1:ru>=0
     ·exact hru2 q x rb ro rc eb eo arcs.length ec ub 0 uc wb wo r.length wc n v i (i64 n) u1 cI cI cI (aD db 0 n dc) ev r[i] rv ru x_ (M:=M1) X1 a4 a5 a2 a6 a0 a1 hv ⟨a3,by omega⟩ hnear hfar (decide_eq_true (by omega)) hb (decide_eq_true (by omega)) (decide_eq_false (by omega)) (decide_eq_false (by omega)) (by rw[Int.toNat_natCast];exact lw) (by rw[Int.toNat_natCast];exact l1) l2 l3 l5 (by rw[Int.toNat_natCast];exact l4)
     ·by_cases h2:rv<0
      ·exact hru3 q x rb ro rc eb eo arcs.length ec ub 0 uc wb wo r.length wc n v i (i64 n) u1 cI cI cI (aD db 0 n dc) ev r[i] rv ru x_ (M:=M1) X1 a4 a5 a2 a6 a0 a1 hv ⟨a3,by omega⟩ hnear hfar (decide_eq_true (by omega)) hb (decide_eq_false (by omega)) (decide_eq_true (by omega)) (by rw[Int.toNat_natCast];exact lw) (by rw[Int.toNat_natCast];exact l1) l2 l3 l5 (by rw[Int.toNat_natCast];exact l4)
      ·exact hru4 q x rb ro rc eb eo arcs.length ec ub 0 uc wb wo r.length wc n v i (i64 n) u1 cI cI cI (aD db 0 n dc) ev r[i] rv ru x_ (M:=M1) X1 a4 a5 a2 a6 a0 a1 hv ⟨a3,by omega⟩ hnear hfar (decide_eq_true (by omega)) hb (decide_eq_false (by omega)) (decide_eq_false (by omega)) (by rw[Int.toNat_natCast];exact lw) (by rw[Int.toNat_natCast];exact l1) l2 l3 l5 (by rw[Int.toNat_natCast];exact l4)
   obtain⟨T1,e1,e2⟩:=done
   rw[aY (by omega)] at e2
   exact⟨(),T1,M1,e1,e2,X1,a7,a0,a1⟩)
  (by
   rintro _ M1 ⟨X1,a7,a0,a1⟩
   exact hrux q x rb ro rc ub 0 uc r.length wc n v r.length wa (.slice ae arcs.length ec) (i64 n) u1 cI cI cI (aD db 0 n dc) ev (M:=M1) X1 hw.ln a2 a0 a1 hv (decide_eq_false (by omega)) (by rw[Int.toNat_natCast];exact lw))
  r.length 0 (by omega) (s:=()) (M:=M) ⟨X0,hM,hG⟩
 exact⟨M',k1,k2,k3,k4⟩
theorem Wd{q x rb ro rc ec ub uc db dc n:Nat}{ae:Option Addr}{u1 ev:Value}{rank:List Int}{arcs:List A7}{up down:List (List Int)}{M0:aA}{M:aA}(hrk:aP rank (aD rb ro n rc) M0)(har:iU arcs (.slice ae arcs.length ec) M0)(hup:bI up (aD ub 0 n uc) M0)(hdn:bI down (aD db 0 n dc) M0)(hM:aB M)(X0:Ext M0 M)(hG:M.get q=some ⟨[i64 n,ev],26,2,0,true⟩/\M.get x=some ⟨[i64 n,u1,aD rb ro n rc,.slice ae arcs.length ec,aD ub 0 n uc,aD db 0 n dc],31,6,0,true⟩){v:Nat}{r:List Int}{rv:Int}(hv:v<n)(hrow:down[v]?=some r)(hrv:rank[v]?=some rv)(hP: ∀a∈r,0<=a/\ ∃x_ ru,arcs[a.toNat]?=some x_/\x_.t=(v:Int)/\(0<=x_.f/\x_.f<n)/\rank[x_.f.toNat]?=some ru/\0<=rv/\(ru<0\/rv<ru)):
  ∃M',bJ Try.prog [] (q4.loopAt 6) Try.f4.ntmps (fr [(7,pt q 0),(8,pt x 0),(11,i64 v),(15,i64 ((0:Nat):Int))]) M (.exit 6) (fr [(7,pt q 0),(8,pt x 0),(11,i64 v)]) M'/\Ext M0 M'/\aB M'/\M'.get q=some ⟨[i64 n,ev],26,2,0,true⟩/\M'.get x=some ⟨[i64 n,u1,aD rb ro n rc,.slice ae arcs.length ec,aD ub 0 n uc,aD db 0 n dc],31,6,0,true⟩:=by
 obtain⟨wa,wc,lw,hw⟩:=Bp (P:=Try.prog) (ty:=22) hdn hrow hI
 have a2:db<M0.next:=by obtain⟨E,c,blk,e1,e2,_⟩:=hdn;simp only [Value.slice.injEq,Option.some.injEq,Addr.mk.injEq,and_true] at e1;rw[e1.1];exact aA.lt_of_get e2
 have hlen:=hw.len
 obtain⟨_,M',k1,k2,k3,k4⟩:=bJ.for (P:=Try.prog) (GL:= []) (b:=q4.loopAt 6) (nt:=Try.f4.ntmps) (id:=6) (σ:=Unit) (n:=r.length) (Inv:=fun i _ M1=>Ext M0 M1/\aB M1/\M1.get q=some ⟨[i64 n,ev],26,2,0,true⟩/\M1.get x=some ⟨[i64 n,u1,aD rb ro n rc,.slice ae arcs.length ec,aD ub 0 n uc,aD db 0 n dc],31,6,0,true⟩)
  (F:=fun i _=> [(7,pt q 0),(8,pt x 0),(11,i64 v),(15,i64 ((i:Nat):Int))]) (O:=fun _=> [(7,pt q 0),(8,pt x 0),(11,i64 v)])
  (by
   rintro i _ M1 hi ⟨X1,a3,a0,a1⟩
   obtain⟨wb,wo,rfl,_⟩:=cD hw (by omega)
   have ht:r[i]?=some r[i]:=List.getElem?_eq_getElem hi
   obtain⟨a4,x_,ru,hax,hnear,hfar,hru,a8,a9⟩:=hP r[i] (List.getElem_mem hi)
   have haL:=(List.getElem?_eq_some_iff.1 hax).1
   obtain⟨eb,eo,rfl,_⟩:=cD har (by omega)
   have l1:=iC (P:=Try.prog) (ty:=3) hw ht rfl cO
   have l2:=iL (P:=Try.prog) (ty:=3) (j:=0) har hax rfl cO
   have l3:=iL (P:=Try.prog) (ty:=3) (j:=1) har hax rfl cO
   have l4:=iC (P:=Try.prog) (ty:=3) hrk hrv rfl cO
   have l5:=iC (P:=Try.prog) (ty:=3) hrk hru rfl cO
   have a5:=Go.Am.oH hrk (by have:=(List.getElem?_eq_some_iff.1 hrv).1;omega)
   have a6:=Go.Am.oH har (by omega)
   have a7:=Go.Am.oH hw (by omega)
   have done:(∃T1,Rd Try.prog [] (q4.loopAt 6) Try.f4.ntmps (fr [(7,pt q 0),(8,pt x 0),(11,i64 v),(15,i64 i)]) M1 .normal T1 M1/\ [7,8,11,15].map T1.get= [some (pt q 0),some (pt x 0),some (i64 v),some (i64 (IntKind.wrap .i64 ((i:Int)+(1:Int))))]):=by
    by_cases h1:ru>=0
    ·exact hrd0 q x rb ro rc eb eo arcs.length ec db 0 dc wb wo r.length wc n v i (i64 n) u1 cI cI (aD ub 0 n uc) cI ev r[i] rv ru x_ (M:=M1) X1 a5 a6 a2 a7 a0 a1 hv ⟨a4,by omega⟩ hnear hfar (by omega) (decide_eq_true (by omega)) (decide_eq_false (by omega)) (decide_eq_true (by omega)) (decide_eq_false (by omega)) (by rw[Int.toNat_natCast];exact lw) (by rw[Int.toNat_natCast];exact l1) l3 (by rw[Int.toNat_natCast];exact l4) l2 l5
    ·exact hrd1 q x rb ro rc eb eo arcs.length ec db 0 dc wb wo r.length wc n v i (i64 n) u1 cI cI (aD ub 0 n uc) cI ev r[i] rv ru x_ (M:=M1) X1 a5 a6 a2 a7 a0 a1 hv ⟨a4,by omega⟩ hnear hfar (by omega) (decide_eq_true (by omega)) (decide_eq_false (by omega)) (decide_eq_false (by omega)) (by rw[Int.toNat_natCast];exact lw) (by rw[Int.toNat_natCast];exact l1) l3 (by rw[Int.toNat_natCast];exact l4) l2 l5
   obtain⟨T1,e1,e2⟩:=done
   rw[aY (by omega)] at e2
   exact⟨(),T1,M1,e1,e2,X1,a3,a0,a1⟩)
  (by
   rintro _ M1 ⟨X1,a3,a0,a1⟩
   exact hrdx q x rb ro rc db 0 dc r.length wc n v r.length wa (.slice ae arcs.length ec) (i64 n) u1 cI cI (aD ub 0 n uc) cI ev (M:=M1) X1 hw.ln a2 a0 a1 hv (decide_eq_false (by omega)) (by rw[Int.toNat_natCast];exact lw))
  r.length 0 (by omega) (s:=()) (M:=M) ⟨X0,hM,hG⟩
 exact⟨M',k1,k2,k3,k4⟩
theorem hro(q x n v:Nat)(u0 u1 u2 u3 u4 u5 ev:Value){M M0:aA}(hM:aB M)(X0:Ext M0 M)(gq:M.get q=some ⟨[i64 n,ev],26,2,0,true⟩)(gx:M.get x=some ⟨[u0,u1,u2,u3,u4,u5],31,6,0,true⟩)(hi4: ∀M1,aB M1->Ext M0 M1->M1.get q=some ⟨[i64 n,ev],26,2,0,true⟩->M1.get x=some ⟨[u0,u1,u2,u3,u4,u5],31,6,0,true⟩-> ∃M',bJ Try.prog [] (q4.loopAt 4) Try.f4.ntmps (fr [(7,pt q 0),(8,pt x 0),(11,i64 v),(12,i64 ((0:Nat):Int))]) M1 (.exit 4) (fr [(7,pt q 0),(8,pt x 0),(11,i64 v)]) M'/\Ext M0 M'/\aB M'/\M'.get q=some ⟨[i64 n,ev],26,2,0,true⟩/\M'.get x=some ⟨[u0,u1,u2,u3,u4,u5],31,6,0,true⟩)(hi6: ∀M1,aB M1->Ext M0 M1->M1.get q=some ⟨[i64 n,ev],26,2,0,true⟩->M1.get x=some ⟨[u0,u1,u2,u3,u4,u5],31,6,0,true⟩-> ∃M',bJ Try.prog [] (q4.loopAt 6) Try.f4.ntmps (fr [(7,pt q 0),(8,pt x 0),(11,i64 v),(15,i64 ((0:Nat):Int))]) M1 (.exit 6) (fr [(7,pt q 0),(8,pt x 0),(11,i64 v)]) M'/\Ext M0 M'/\aB M'/\M'.get q=some ⟨[i64 n,ev],26,2,0,true⟩/\M'.get x=some ⟨[u0,u1,u2,u3,u4,u5],31,6,0,true⟩)(cc0:(decide ((v:Int)<(n:Int)))=true): ∃T1 M',Rd Try.prog [] (q4.loopAt 2) Try.f4.ntmps (fr [(7,(pt q 0)),(8,(pt x 0)),(11,(i64 (v:Int)))]) M .normal T1 M'/\ [7,8,11].map T1.get= [some (pt q 0),some (pt x 0),some (i64 (IntKind.wrap .i64 ((v:Int)+(1:Int))))]/\Ext M0 M'/\aB M'/\M'.get q=some ⟨[i64 (n:Int),ev],26,2,0,true⟩/\M'.get x=some ⟨[u0,u1,u2,u3,u4,u5],31,6,0,true⟩:=by
 obtain⟨M1,a3,X3,a5,g5,g6⟩:=hi4 M hM X0 gq gx
 obtain⟨M7,a4,X9,a0,a1,a2⟩:=hi6 M1 a5 X3 g5 g6
 obtain⟨T1,h1,h2⟩:=Rd.told (tb:=[4,6]) (n:=120) (F:=[aU 5 (i64 (n:Int)),aM 8,.blk 11 [7,8,11,12] .normal (fr [(7,(pt q 0)),(8,(pt x 0)),(11,(i64 (v:Int)))]) M1,.blk 14 [7,8,11,15] .normal (fr [(7,(pt q 0)),(8,(pt x 0)),(11,(i64 (v:Int)))]) M7]) aJ aI (fun B=>sb2 (gQ B) 4 a3 6 a4) (fun _ h=>sQ h) (by kernel_rfl) (hk (lC (o:=0) cO gq rfl) (hk (bT cc0) (hq (.blk 4 (.loop (q4.loopAt 4)) Try.f4.ntmps [7,8,11,12] [some (pt q 0),some (pt x 0),some (i64 (v:Int)),some (i64 0)] M .normal (fr [(7,(pt q 0)),(8,(pt x 0)),(11,(i64 (v:Int)))]) M1) (fH rfl) (hq (.blk 6 (.loop (q4.loopAt 6)) Try.f4.ntmps [7,8,11,15] [some (pt q 0),some (pt x 0),some (i64 (v:Int)),some (i64 0)] M1 .normal (fr [(7,(pt q 0)),(8,(pt x 0)),(11,(i64 (v:Int)))]) M7) (fH rfl) hn))))
 exact⟨T1,M7,h1,h2,X9,a0,a1,a2⟩
theorem hrox(q x n v:Nat)(u0 u1 u2 u3 u4 u5 ev:Value){M:aA}(gq:M.get q=some ⟨[i64 n,ev],26,2,0,true⟩)(gx:M.get x=some ⟨[u0,u1,u2,u3,u4,u5],31,6,0,true⟩)(cc0:(decide ((v:Int)<(n:Int)))=false): ∃T1,Rd Try.prog [] (q4.loopAt 2) Try.f4.ntmps (fr [(7,(pt q 0)),(8,(pt x 0)),(11,(i64 (v:Int)))]) M (.exit 2) T1 M/\ [].map T1.get= []:=by
 exact Rd.told (tb:=[]) (n:=60) (F:=[aU 5 (i64 (n:Int)),aO 8]) aJ aI (aG Try.prog) (fun _ _=>rfl) (by kernel_rfl) (hk (lC (o:=0) cO gq rfl) (hk (bF cc0) hn))
theorem We{q x rb ro rc ec ub uc db dc n:Nat}{ae:Option Addr}{u1 ev:Value}{rank:List Int}{arcs:List A7}{up down:List (List Int)}{M0:aA}{M:aA}(hrk:aP rank (aD rb ro n rc) M0)(har:iU arcs (.slice ae arcs.length ec) M0)(hup:bI up (aD ub 0 n uc) M0)(hdn:bI down (aD db 0 n dc) M0)(hM:aB M)(X0:Ext M0 M)(hG:M.get q=some ⟨[i64 n,ev],26,2,0,true⟩/\M.get x=some ⟨[i64 n,u1,aD rb ro n rc,.slice ae arcs.length ec,aD ub 0 n uc,aD db 0 n dc],31,6,0,true⟩){l:List Int}{s:Da}(e1:rank=s.rank)(e2:arcs=s.b.arcs)(e3:up=s.up)(e4:down=s.down)(hul:up.length=n)(hdl:down.length=n)(hR:RF n l s):
  ∃M',bJ Try.prog [] (q4.loopAt 2) Try.f4.ntmps (fr [(7,pt q 0),(8,pt x 0),(11,i64 ((0:Nat):Int))]) M (.exit 2) (fr []) M'/\Ext M0 M'/\aB M':=by
 have hln:n<=9223372036854775807:=by have h1:=hrk.len;have h2:=aK.len_eq hrk;omega
 obtain⟨_,M',k1,k2,k3,k4⟩:=bJ.for (P:=Try.prog) (GL:= []) (b:=q4.loopAt 2) (nt:=Try.f4.ntmps) (id:=2) (σ:=Unit) (n:=n) (Inv:=fun i _ M1=>Ext M0 M1/\aB M1/\M1.get q=some ⟨[i64 n,ev],26,2,0,true⟩/\M1.get x=some ⟨[i64 n,u1,aD rb ro n rc,.slice ae arcs.length ec,aD ub 0 n uc,aD db 0 n dc],31,6,0,true⟩)
  (F:=fun i _=> [(7,pt q 0),(8,pt x 0),(11,i64 ((i:Nat):Int))]) (O:=fun _=> [])
  (by
   rintro v _ M1 hv ⟨X1,a2,a0,a1⟩
   have hu:up[v]?=some up[v]:=List.getElem?_eq_getElem (by omega)
   have hd:down[v]?=some down[v]:=List.getElem?_eq_getElem (by omega)
   obtain⟨rv,hrv,hPU⟩:=hR.up v up[v] hv (by rw[<-e3];exact hu)
   obtain⟨rv',hrv',hPD⟩:=hR.down v down[v] hv (by rw[<-e4];exact hd)
   rw[hrv] at hrv'
   cases hrv'
   obtain⟨T1,M2,q1,q2,q3,q4,q5,q6⟩:=hro q x n v (i64 n) u1 (aD rb ro n rc) (.slice ae arcs.length ec) (aD ub 0 n uc) (aD db 0 n dc) ev a2 X1 a0 a1
    (fun M1 a2 X1 a0 a1=>Wg hrk har hup hdn a2 X1 ⟨a0,a1⟩ hv hu (by rw[e1];exact hrv) (fun a ha=>by rw[e1,e2];exact hPU a ha))
    (fun M1 a2 X1 a0 a1=>Wd hrk har hup hdn a2 X1 ⟨a0,a1⟩ hv hd (by rw[e1];exact hrv) (fun a ha=>by
     obtain⟨h0,x_,ru,q1,q2,q3,q4,q5,q6⟩:=hPD a ha
     rw[e1,e2]
     exact⟨h0,x_,ru,q1,q2,q4,q5,q3,q6⟩)) (decide_eq_true (by omega))
   rw[aY (by omega)] at q2
   exact⟨(),T1,M2,q1,q2,q3,q4,q5,q6⟩)
  (by
   rintro _ M1 ⟨X1,a2,a0,a1⟩
   exact hrox q x n n (i64 n) u1 (aD rb ro n rc) (.slice ae arcs.length ec) (aD ub 0 n uc) (aD db 0 n dc) ev (M:=M1) a0 a1 (decide_eq_false (by omega)))
  n 0 (by omega) (s:=()) (M:=M) ⟨X0,hM,hG⟩
 exact⟨M',k1,k2,k3⟩
theorem hrp(q x rb ro rc ob oo oc m n i:Nat)(u0 u1 u2 u3 u4 u5:Value)(w:Int){M:aA}{M0:aA}(X0:Ext M0 M)(hrb:rb<M0.next)(hob:ob<M0.next)(gx:M.get x=some ⟨[u0,u1,aD rb ro n rc,u3,u4,u5],31,6,0,true⟩)(hw:0<=w/\w<(n:Int))(cc0:(decide ((i:Int)<(m:Int)))=true)(hld0:aX Try.prog 3 ⟨ob,oo+((i:Int):Int).toNat*1,none⟩ M0=some (i64 w))(hld1:aX Try.prog 3 ⟨rb,ro+(w:Int).toNat*1,none⟩ M0=some (i64 (i:Int))): ∃T1,Rd Try.prog [] (q4.loopAt 0) Try.f4.ntmps (fr [(7,(pt q 0)),(8,(pt x 0)),(9,(aD ob oo m oc)),(10,(i64 (i:Int)))]) M .normal T1 M/\ [7,8,9,10].map T1.get= [some (pt q 0),some (pt x 0),some (aD ob oo m oc),some (i64 (IntKind.wrap .i64 ((i:Int)+(1:Int))))]:=by
 exact Rd.told (tb:=[]) (n:=120) (F:=[aM 8,aU 12 (aD rb ro n rc),aM 18,aU 20 (i64 w),aM 22,aU 24 (i64 (i:Int)),aO 29]) aJ aI (aG Try.prog) (fun _ _=>rfl) (by kernel_rfl) (hk (bT cc0) (hk (lC (o:=2) hI gx rfl) (hk (qI (i:Int) m (by omega) (by simp at cc0;omega)) (hk (lD (aE X0 hld0)) (hk (qI w n (by omega) (by omega)) (hk (lD (aE X0 hld1)) (hk (bF (x:=!((i:Int)==(i:Int))) (fN _)) hn)))))))
theorem hrpx(q x oc m i:Nat)(oa:Option Addr)(u0 u1 u2 u3 u4 u5:Value){M:aA}(hln:oa.isNone=true->m=0/\oc=0)(gx:M.get x=some ⟨[u0,u1,u2,u3,u4,u5],31,6,0,true⟩)(cc0:(decide ((i:Int)<(m:Int)))=false): ∃T1,Rd Try.prog [] (q4.loopAt 0) Try.f4.ntmps (fr [(7,(pt q 0)),(8,(pt x 0)),(9,(.slice oa m oc)),(10,(i64 (i:Int)))]) M (.exit 0) T1 M/\ [7,8].map T1.get= [some (pt q 0),some (pt x 0)]:=by
 exact Rd.told (tb:=[]) (n:=60) (F:=[aM 5,aO 8]) aJ aI (aG Try.prog) (fun _ _=>rfl) (by kernel_rfl) (hk (lN hln) (hk (bF cc0) hn))
theorem Wf{q x rb ro rc oc n:Nat}{oa:Option Addr}{u0 u1 u3 u4 u5:Value}{rank l:List Int}{M0 M:aA}(hrk:aP rank (aD rb ro n rc) M0)(hol:aP l (.slice oa l.length oc) M0)(hM:aB M)(X0:Ext M0 M)(gx:M.get x=some ⟨[u0,u1,aD rb ro n rc,u3,u4,u5],31,6,0,true⟩)(hn:0<n)(hr: ∀v∈l,0<=v/\v<(n:Int))(hP: ∀(i:Nat) (v:Int),l[i]?=some v->rank[v.toNat]?=some (i:Int)):
  ∃M',bJ Try.prog [] (q4.loopAt 0) Try.f4.ntmps (fr [(7,pt q 0),(8,pt x 0),(9,.slice oa l.length oc),(10,i64 ((0:Nat):Int))]) M (.exit 0) (fr [(7,pt q 0),(8,pt x 0)]) M'/\Ext M0 M'/\aB M'/\M'.get x=some ⟨[u0,u1,aD rb ro n rc,u3,u4,u5],31,6,0,true⟩:=by
 have hlen:=hol.len
 have hrl:=aK.len_eq hrk
 have a2:=Go.Am.oH hrk (by omega)
 obtain⟨_,M',k1,k2,k3,k4⟩:=bJ.for (P:=Try.prog) (GL:= []) (b:=q4.loopAt 0) (nt:=Try.f4.ntmps) (id:=0) (σ:=Unit) (n:=l.length) (Inv:=fun i _ M1=>Ext M0 M1/\aB M1/\M1.get x=some ⟨[u0,u1,aD rb ro n rc,u3,u4,u5],31,6,0,true⟩)
  (F:=fun i _=> [(7,pt q 0),(8,pt x 0),(9,.slice oa l.length oc),(10,i64 ((i:Nat):Int))]) (O:=fun _=> [(7,pt q 0),(8,pt x 0)])
  (by
   rintro i _ M1 hi ⟨X1,a1,a0⟩
   obtain⟨ob,oo,rfl,_⟩:=cD hol (by omega)
   have ht:l[i]?=some l[i]:=List.getElem?_eq_getElem hi
   have hv:=hr l[i] (List.getElem_mem hi)
   have l1:=iC (P:=Try.prog) (ty:=3) hol ht rfl cO
   have l2:=iC (P:=Try.prog) (ty:=3) hrk (hP i _ ht) rfl cO
   have done:=hrp q x rb ro rc ob oo oc l.length n i u0 u1 cI u3 u4 u5 l[i] (M:=M1) X1 a2 (Go.Am.oH hol (by omega)) a0 hv (decide_eq_true (by omega)) (by rw[Int.toNat_natCast];exact l1) l2
   obtain⟨T1,e1,e2⟩:=done
   rw[aY (by omega)] at e2
   exact⟨(),T1,M1,e1,e2,X1,a1,a0⟩)
  (by
   rintro _ M1 ⟨X1,a1,a0⟩
   exact hrpx q x oc l.length l.length oa u0 u1 (aD rb ro n rc) u3 u4 u5 (M:=M1) hol.ln a0 (decide_eq_false (by omega)))
  l.length 0 (by omega) (s:=()) (M:=M) ⟨X0,hM,gx⟩
 exact⟨M',k1,k2,k3,k4⟩
theorem rK4:Try.f4.results= #[.tmp 6]:=by kernel_rfl
theorem w4(size:Int)(ans:Option Addr)(cns:Nat)(ns:List Int)(md:Int){M:aA}(hM:aB M)(hns:aP ns (.slice ans ns.length cns) M): ∃v_ M',Ev Try.prog [] 4 [i64 size,.slice ans ns.length cns,i64 md] M v_ M'/\Ext M M'/\aB M'/\v_= .bool true:=by
 obtain⟨w1,N2,M3,p4,l5,e6,E7,p3,F9⟩:=aH (x:=()) hM con9 (rfl)
 have o8:w1=(.bool true):=F9
 subst o8
 have m4:=(Ext.refl M).trans E7
 obtain⟨w16,r4,f6,q8,q3,o6,m9,k4,n0⟩:=aH (x:=(size,ns,md)) p3 Zq (⟨_,_,_,rfl,rfl,AP.Ext (R:=aP) hns m4,rfl⟩)
 obtain⟨r3,e1,i3⟩:jC ((eB size),(pM size ns md)) w16 (bP [(0,M3.next)] f6):=lI n0
 simp only at e1 i3
 obtain⟨a5,a6,j3⟩:=aK.form i3
 subst j3
 subst e1
 have m5:=m4.trans m9
 obtain⟨b0,i4,c9,j7,p0,m2,k5⟩:=bG k4 ⟨[i64 0,cI],26,2,0,true⟩
 have l6:M.next<=b0:=by rw[<-c9];exact m5.next
 have n1:=iB (R:=aV) i3 c9 m2
 have o3:=m5.trans m2
 obtain⟨b1,r0,e4,l2,o4,k6,q6⟩:=bH (o:=0) (v:=(.agg ⟨[i64 ((eB size):Int),.slice a5 (pM size ns md).length a6]⟩)) (new:= [i64 ((eB size):Int),.slice a5 (pM size ns md).length a6]) o3 l6 k5 pS p0 rfl rfl (Nat.zero_le _) (Nat.le_of_ble_eq_true rfl) rfl
 replace e4:b1.get b0=some ⟨[i64 ((eB size):Int),.slice a5 (pM size ns md).length a6],26,2,0,true⟩:=e4
 have m3:=gO (R:=aV) n1 (fun id h _=>l2 id h) (by intro id hh;simp only [bN] at hh;omega)
 obtain⟨HS,hHS⟩: ∃s,s=lH (eB size) (pM size ns md) (cR (eB size) (pM size ns md)):=⟨_,rfl⟩
 obtain⟨p5,k9,l0,l1,p6⟩:=Ek (Gp (pJ size ns md)) (iO (pJ size ns md)) (vA (pJ size ns md)) (by have:=nL size;omega)
 rw[<-hHS] at p5 k9 l0 l1 p6
 have ltb27M70:=aA.lt_of_get e4
 obtain⟨r2,r5,b7,q9,q5,o7,f5,k7,n2⟩:=aH (x:=((eB size),(pM size ns md))) k6 Zr (⟨⟨_,rfl,_,rfl,eI (R:=aV) m3⟩,pJ size ns md,(by have:=nL size;omega)⟩)
 have q7:=f5.next
 have n3:=dW (R:=aV) m3 f5
 have m7:=f5.old e4
 have o0:Wu (ixH (eB size) (pM size ns md) HS) r2 (bP [(0,b1.next)] b7):=by rw[hHS];exact lI n2
 obtain⟨p7,p8,p9,q1,q2,j9,f7,f3,f8,f9,g0⟩:=o0
 replace f7:aV (pM size ns md) p7 (bP [(0,b1.next)] b7):=f7
 obtain⟨b8,b9,j5⟩:=aK.form f7
 replace f3:aP HS.rank p8 (bP [(0,b1.next)] b7):=f3
 obtain⟨r6,c6,d6⟩:=aK.form f3
 replace f8:iU HS.b.arcs p9 (bP [(0,b1.next)] b7):=f8
 obtain⟨d1,d2,j6⟩:=aK.form f8
 replace f9:bI HS.up q1 (bP [(0,b1.next)] b7):=f9
 obtain⟨c3,c7,d7⟩:=fU f9
 replace g0:bI HS.down q2 (bP [(0,b1.next)] b7):=g0
 obtain⟨c4,c8,d8⟩:=fU g0
 rw[k9] at d6
 rw[l0] at d7
 rw[l1] at d8
 subst j5 d6 j6 d7 d8
 subst j9
 obtain⟨a7,a8,j4,_⟩:=cD f3 (by rw[k9];have:=nL size;omega)
 subst j4
 have m6:=o4.trans f5
 obtain⟨b2,i5,a3,j8,p1,c0,k8⟩:=bG k7 ⟨[i64 0,cI,cI,cI,cI,cI],31,6,0,true⟩
 have l7:M.next<=b2:=by rw[<-a3];exact m6.next
 have db27b81:b0≠b2:=by have:=aA.lt_of_get m7;omega
 have n4:=iB (R:=aV) n3 a3 c0
 have n5:=iB (R:=aV) f7 a3 c0
 have n6:=iB (R:=aP) f3 a3 c0
 have n7:=iB (R:=iU) f8 a3 c0
 have n8:=iB (R:=bI) f9 a3 c0
 have n9:=iB (R:=bI) g0 a3 c0
 have p2:=c0.old m7
 have o5:=m6.trans c0
 obtain⟨d0,r1,k3,a0,i6,e8,m8⟩:=bH (o:=0) (v:=(.agg ⟨[i64 ((eB size):Int),.slice b8 (pM size ns md).length b9,aD a7 a8 (eB size) c6,.slice d1 HS.b.arcs.length d2,aD c3 0 (eB size) c7,aD c4 0 (eB size) c8]⟩)) (new:= [i64 ((eB size):Int),.slice b8 (pM size ns md).length b9,aD a7 a8 (eB size) c6,.slice d1 HS.b.arcs.length d2,aD c3 0 (eB size) c7,aD c4 0 (eB size) c8]) o5 l7 k8 Pt p1 rfl rfl (Nat.zero_le _) (Nat.le_of_ble_eq_true rfl) rfl
 replace k3:d0.get b2=some ⟨[i64 ((eB size):Int),.slice b8 (pM size ns md).length b9,aD a7 a8 (eB size) c6,.slice d1 HS.b.arcs.length d2,aD c3 0 (eB size) c7,aD c4 0 (eB size) c8],31,6,0,true⟩:=k3
 have d3:=gO (R:=aV) n4 (fun id h _=>a0 id h) (by intro id hh;simp only [bN] at hh;omega)
 have g2:=gO (R:=aV) n5 (fun id h _=>a0 id h) (by intro id hh;simp only [bN] at hh;omega)
 have g3:=gO (R:=aP) n6 (fun id h _=>a0 id h) (by intro id hh;simp only [bN] at hh;omega)
 have g4:=gO (R:=iU) n7 (fun id h _=>a0 id h) (by intro id hh;simp only [bN] at hh;omega)
 have g5:=gO (R:=bI) n8 (fun id h _=>a0 id h) (by intro id hh;simp only [bN] at hh;omega)
 have g6:=gO (R:=bI) n9 (fun id h _=>a0 id h) (by intro id hh;simp only [bN] at hh;omega)
 have e2:=(a0 _ db27b81).trans p2
 obtain⟨m0,o1,a9,l8,l3,j1,a1,e9,g7⟩:=aH (x:=((eB size),(pM size ns md))) e8 Zs (⟨⟨_,rfl,_,rfl,eI (R:=aV) d3⟩,pJ size ns md⟩)
 have g8:=dW (R:=aV) d3 a1
 have g9:=dW (R:=aV) g2 a1
 have h0:=dW (R:=aP) g3 a1
 have h1:=dW (R:=iU) g4 a1
 have h2:=dW (R:=bI) g5 a1
 have h3:=dW (R:=bI) g6 a1
 have b3:=a1.old e2
 have b4:=a1.old k3
 have d5:aP (cR (eB size) (pM size ns md)) m0 (bP [(0,d0.next)] a9):=by rw[Ce (pJ size ns md)];exact lI g7
 obtain⟨c2,c5,d9⟩:=aK.form d5
 subst d9
 have i7:=i6.trans a1
 obtain⟨m1,o2,b5,l9,l4,j2,a2,f0,h4⟩:=aH (x:=(((eB size),(pM size ns md)),((eB size),(pM size ns md)))) e9 Zt (⟨⟨_,_,rfl,⟨_,rfl,eI (R:=aV) g9⟩,⟨_,rfl,eI (R:=aV) g8⟩⟩,rfl⟩)
 have d4:=dW (R:=aP) h0 a2
 have h5:=dW (R:=iU) h1 a2
 have h6:=dW (R:=bI) h2 a2
 have h7:=dW (R:=bI) h3 a2
 have h8:=dW (R:=aP) d5 a2
 have k0:=a2.old b3
 have e3:=a2.old b4
 have e0:m1=(.bool true):=h4
 subst e0
 have i8:=i7.trans a2
 have hRF:RF (eB size) (cR (eB size) (pM size ns md)) HS:=by rw[hHS];exact RF.of (Gp (pJ size ns md)) (iO (pJ size ns md)) (wG (pJ size ns md))
 obtain⟨b6,e5,a4,f1,o9⟩:=Wf (eI (R:=aP) d4) (eI (R:=aP) h8) f0 (Ext.refl b5) e3 (by have:=nL size;omega) (iO (pJ size ns md)) hRF.rk
 have h9:=dW (R:=aP) d4 a4
 have i0:=dW (R:=iU) h5 a4
 have i1:=dW (R:=bI) h6 a4
 have i2:=dW (R:=bI) h7 a4
 have k1:=a4.old k0
 have k2:=a4.old e3
 have i9:=i8.trans a4
 obtain⟨c1,e7,g1,f2⟩:=We (eI (R:=aP) h9) (eI (R:=iU) i0) (eI (R:=bI) i1) (eI (R:=bI) i2) f1 (Ext.refl b6) ⟨k1,k2⟩ rfl rfl rfl rfl l0 l1 hRF
 have j0:=i9.trans g1
 exact⟨.bool true,c1,Ev.told_tmp (tb:=[0,2]) (n:=200) (F:=[bL 3 (.bool true) M3,bL 14 (.agg ⟨[i64 ((eB size):Int),.slice a5 (pM size ns md).length a6]⟩) f6,bL 16 (pt b0 0) i4,lP 18 b1,aU 20 (.agg ⟨[i64 ((eB size):Int),.slice a5 (pM size ns md).length a6]⟩),bL 22 (.agg ⟨[i64 ((eB size):Int),.slice b8 (pM size ns md).length b9,aD a7 a8 (eB size) c6,.slice d1 HS.b.arcs.length d2,aD c3 0 (eB size) c7,aD c4 0 (eB size) c8]⟩) b7,bL 24 (pt b2 0) i5,lP 26 d0,aU 28 (.agg ⟨[i64 ((eB size):Int),.slice a5 (pM size ns md).length a6]⟩),bL 30 (.slice c2 (cR (eB size) (pM size ns md)).length c5) a9,aU 36 (aD a7 a8 (eB size) c6),aU 42 (i64 ((eB size):Int)),aO 47,aO 49,aU 50 (aD c3 0 (eB size) c7),aO 51,aO 53,aO 55,aU 56 (i64 ((eB size):Int)),aO 57,aO 60,aO 63,aO 65,aU 66 (aD c4 0 (eB size) c8),aO 67,aO 69,aO 71,aU 72 (i64 ((eB size):Int)),aO 73,aO 76,aO 79,aO 81,aU 82 (.agg ⟨[i64 ((eB size):Int),.slice b8 (pM size ns md).length b9]⟩),aO 83,aU 84 (.agg ⟨[i64 ((eB size):Int),.slice a5 (pM size ns md).length a6]⟩),aO 85,bL 86 (.bool true) b5,aO 87,aO 90,.blk 94 [7,8,9,10] .normal (fr [(7,(pt b0 0)),(8,(pt b2 0))]) b6,.blk 97 [7,8,11] .normal (fr []) c1]) aJ aI Try.func4 q4_ok (by kernel_rfl) rK4 (fun B=>sb2 (gF 9 Q9 (gF 10 Q10 (gF 11 Q11 (gF 14 Q14 (gF 15 Q15 (gQ _)))))) 0 e5 2 e7) (fun _ h=>sQ h) (by kernel_rfl) (hq (qC 9 [] M (.bool true) M3) (aN rfl p4 l5 e6) (hq (qC 10 [i64 size,.slice ans ns.length cns,i64 md] M3 (.agg ⟨[i64 ((eB size):Int),.slice a5 (pM size ns md).length a6]⟩) f6) (aN rfl q8 q3 o6) (hq (.eq (dL Try.prog 26 f6) (1,.val (pt b0 0),i4)) (bZ (by rw[<-c9,<-j7];kernel_rfl) Nat.one_ne_zero) (hq (qS 26 b0 0 (.agg ⟨[i64 ((eB size):Int),.slice a5 (pM size ns md).length a6]⟩) i4 b1) (eF r0) (hq (qL 26 b0 0 b1 (.agg ⟨[i64 ((eB size):Int),.slice a5 (pM size ns md).length a6]⟩)) (lA ⟨rW,pS⟩ e4 rfl) (hq (qC 11 [.agg ⟨[i64 ((eB size):Int),.slice a5 (pM size ns md).length a6]⟩] b1 (.agg ⟨[i64 ((eB size):Int),.slice b8 (pM size ns md).length b9,aD a7 a8 (eB size) c6,.slice d1 HS.b.arcs.length d2,aD c3 0 (eB size) c7,aD c4 0 (eB size) c8]⟩) b7) (aN rfl q9 q5 o7) (hq (.eq (dL Try.prog 31 b7) (1,.val (pt b2 0),i5)) (bZ (by rw[<-a3,<-j8];kernel_rfl) Nat.one_ne_zero) (hq (qS 31 b2 0 (.agg ⟨[i64 ((eB size):Int),.slice b8 (pM size ns md).length b9,aD a7 a8 (eB size) c6,.slice d1 HS.b.arcs.length d2,aD c3 0 (eB size) c7,aD c4 0 (eB size) c8]⟩) i5 d0) (eF r1) (hq (qL 26 b0 0 d0 (.agg ⟨[i64 ((eB size):Int),.slice a5 (pM size ns md).length a6]⟩)) (lA ⟨rW,pS⟩ e2 rfl) (hq (qC 14 [.agg ⟨[i64 ((eB size):Int),.slice a5 (pM size ns md).length a6]⟩] d0 (.slice c2 (cR (eB size) (pM size ns md)).length c5) a9) (aN rfl l8 l3 j1) (hk (lC (o:=2) hI b4 rfl) (hk (lC (o:=0) cO b3 rfl) (hk (bF (x:=!(((eB size):Int)==((eB size):Int))) (fN _)) (hk (bF (x:=!(((eB size):Int)==((eB size):Int))) (fN _)) (hk (lC (o:=4) mB b4 rfl) (hk (bF (x:=!(((eB size):Int)==((eB size):Int))) (fN _)) (hk (bF (x:=!(((eB size):Int)==((eB size):Int))) (fN _)) (hk (bF (x:=!(((eB size):Int)==((eB size):Int))) (fN _)) (hk (lC (o:=0) cO b3 rfl) (hk (bF (x:=!(((eB size):Int)==((eB size):Int))) (fN _)) (hk (bF (x:=!(((eB size):Int)==((eB size):Int))) (fN _)) (hk (bF (x:=!(((eB size):Int)==((eB size):Int))) (fN _)) (hk (bF (x:=!(((eB size):Int)==((eB size):Int))) (fN _)) (hk (lC (o:=5) mB b4 rfl) (hk (bF (x:=!(((eB size):Int)==((eB size):Int))) (fN _)) (hk (bF (x:=!(((eB size):Int)==((eB size):Int))) (fN _)) (hk (bF (x:=!(((eB size):Int)==((eB size):Int))) (fN _)) (hk (lC (o:=0) cO b3 rfl) (hk (bF (x:=!(((eB size):Int)==((eB size):Int))) (fN _)) (hk (bF (x:=!(((eB size):Int)==((eB size):Int))) (fN _)) (hk (bF (x:=!(((eB size):Int)==((eB size):Int))) (fN _)) (hk (bF (x:=!(((eB size):Int)==((eB size):Int))) (fN _)) (hq (qL 26 b2 0 a9 (.agg ⟨[i64 ((eB size):Int),.slice b8 (pM size ns md).length b9]⟩)) (lA ⟨rW,pS⟩ b4 rfl) (hk (bF (x:=!(((eB size):Int)==((eB size):Int))) (fN _)) (hq (qL 26 b0 0 a9 (.agg ⟨[i64 ((eB size):Int),.slice a5 (pM size ns md).length a6]⟩)) (lA ⟨rW,pS⟩ b3 rfl) (hk (bF (x:=!(((eB size):Int)==((eB size):Int))) (fN _)) (hq (qC 15 [.agg ⟨[i64 ((eB size):Int),.slice b8 (pM size ns md).length b9]⟩,.agg ⟨[i64 ((eB size):Int),.slice a5 (pM size ns md).length a6]⟩] a9 (.bool true) b5) (aN rfl l9 l4 j2) (hk (bF (x:=!(((eB size):Int)==((eB size):Int))) (fN _)) (hk (bF (x:=!(((eB size):Int)==((eB size):Int))) (fN _)) (hq (.blk 0 (.loop (q4.loopAt 0)) Try.f4.ntmps [7,8,9,10] [some (pt b0 0),some (pt b2 0),some (.slice c2 (cR (eB size) (pM size ns md)).length c5),some (i64 0)] b5 .normal (fr [(7,(pt b0 0)),(8,(pt b2 0))]) b6) (fH rfl) (hq (.blk 2 (.loop (q4.loopAt 2)) Try.f4.ntmps [7,8,11] [some (pt b0 0),some (pt b2 0),some (i64 0)] b6 .normal (fr []) c1) (fH rfl) hn))))))))))))))))))))))))))))))))))))))))),j0,f2,rfl⟩
end Go.Proofs.Ytdaglldahidmbaa
