/-
  Package hier: each of its laws for every argument; no conditions. The last text states which.
-/
import Derived.Test.YtdaglldahidmbaaGreatGAmPw
import Derived.Test.YtdaglldahidmbaaGreatGAmMk
import Derived.Test.YtdaglldahidmbaaGreatGAmBk
set_option linter.unusedVariables false
set_option linter.unusedSimpArgs false
noncomputable section
namespace Go.Am
open Go
set_option linter.unusedVariables false
variable{P:Program}{GL:List Nat}
def cut(b:Nat)(M:aB):aB:=⟨M.blks,b,M.hide,M.log⟩
theorem wD{b id:Nat}{M:aB}(hb:b<=M.next)(h:id<b):(cut b M).get id=M.get id:=by
 cases hg:M.get id with
 |some k=>
  obtain⟨h1,h2,h3,h4⟩:=cB.1 hg
  exact cB.2 ⟨h,h2,h3,h4⟩
 |none=>
  cases hc:(cut b M).get id with
  |none=>rfl
  |some k=>
   obtain⟨h1,h2,h3,h4⟩:=cB.1 hc
   have:M.get id=some k:=cB.2 ⟨xAf h1 hb,h2,h3,h4⟩
   rw[hg] at this;cases this
theorem Ext.cut{b:Nat}{M:aB}(hb:b<=M.next):Ext (Go.Am.cut b M) M:=⟨hb,rfl,fun _ hid=>(wD hb hid).symm,[],rfl,fun t h=>by cases h⟩
def TC(P:Program)(GL:List Nat)(f:FuncId)(Q:List Value->aB->Value->aB->Prop):List Value->aB->Value->aB->Prop:=fun args M v M'=>Ev P GL f args M v M'/\Q args M v M'
theorem TC.ok{f:FuncId}{Q:List Value->aB->Value->aB->Prop}(B:Bd):dR P GL B f (pick (TC P GL f Q)):=dR.pick fun _ _ _ _ h=>h.1
theorem wM{n t:Nat}:∀{l:List Nat},t∈kG n l->t∈l
 | [],h=>by cases h
 |x::l,h=>by
  unfold kG at h;cases hx:Nat.blt x n<;>rw[hx] at h
  ·exact List.mem_cons_of_mem _ (wM h)
  ·rcases List.mem_cons.1 h with rfl|h
   ·exact List.mem_cons_self ..
   ·exact List.mem_cons_of_mem _ (wM h)
theorem Vj{f:FuncId}{Q:List Value->aB->Value->aB->Prop}{args:List Value}{M M0:aB}{b:Nat}(hM:aA M)(X:Ext M0 M)(hb:M0.next<=b)(a0:b<=M.next)
  (hK:∃v M',TC P GL f Q args {M with log:=[]} v M') (hT:∀v M',Q args {M with log:=[]} v M'->Ext (cut b {M with log:=[]}) M'):
  ∃t v M' M1,(∀SP:dC,SP.calls f=some (pick (TC P GL f Q))->OQ.holds P SP (.cl f args M ((bif t then 1 else 2),.val v,M1)))/\Ext M0 M1/\aA M1/\M.next<=M1.next/\Q args {M with log:=[]} v M'/\∀id,M1.get id=M'.get id:=by
 obtain⟨v,M',h1,h2,h3⟩:=Gq hK
 have hE:=hT v M' h3
 obtain⟨L0,ha⟩:=h2.abs
 have hn:M.next<=M'.next:=ha.next
 have hh:M'.hide=M.hide:=hE.hide
 obtain⟨L,k1,k2⟩:=hE.log
 have a1:M'.log=L:=by rw[k1];exact List.append_nil L
 obtain⟨L1,j1,j2⟩:=X.log
 have key:∀l:List Nat,(∀t∈l,b<=t)->Ext M0 {M' with log:=l++M.log,hide:=M.hide}/\aA {M' with log:=l++M.log,hide:=M.hide}/\∀id,({M' with log:=l++M.log,hide:=M.hide}:aB).get id=M'.get id:=fun l hl=>by
  have hg:∀id,({M' with log:=l++M.log,hide:=M.hide}:aB).get id=M'.get id:=fun id=>by
   unfold aB.get aB.getA;simp only [hh]
  refine⟨⟨Nat.le_trans X.next hn,X.hide,fun id hid=>?_,l++L1,by show l++M.log=_;rw[j1,List.append_assoc],fun t ht=>?_⟩,fun id hid=>xAf (hM id hid) hn,hg⟩
  ·rw[hg,hE.get id (xAf hid hb),wD (M:={M with log:=[]}) a0 (xAf hid hb)];exact X.get id hid
  ·rcases List.mem_append.1 ht with ht|ht
   ·exact Nat.le_trans hb (hl t ht)
   ·exact j2 t ht
 cases hl:kG M.next M'.log with
 |nil=>
  obtain⟨q1,q2,q3⟩:=key [] (fun t ht=>by cases ht)
  refine⟨true,v,M',{M' with log:=[]++M.log,hide:=M.hide},fun SP hs=>⟨?_,by simp⟩,q1,q2,hn,h3,q3⟩
  unfold lB jN fV
  rw[hs]
  simp only [h1,hl]
  rfl
 |cons x l=>
  obtain⟨q1,q2,q3⟩:=key (x::l) (fun t ht=>by rw[<-hl] at ht;have:=wM ht;rw[a1] at this;exact k2 t this)
  refine⟨false,v,M',{M' with log:=(x::l)++M.log,hide:=M.hide},fun SP hs=>⟨?_,by simp⟩,q1,q2,hn,h3,q3⟩
  unfold lB jN fV
  rw[hs]
  simp only [h1,hl]
  rfl
abbrev oU(P:Program)(tb:List Nat)(n:Nat)(fn:Func)(q:QC)(args:List Value)(M:aB)(F:List OF):=(oB P [] tb n fn.ntmps q (mR args 0 .nil) M F 0).map (fun r=>(r.1.1,r.1.2.2,r.2.2.2))
theorem Ev.told_none{SP:dC}(hN:eJ P)(hm:P.follows .mixedOrders=true){f:FuncId}{fn:Func}{q:QC}{tb:List Nat}{n:Nat}{args:List Value}{M M':aB}{F:List OF}{e:cT}{qs:oP}
  (hf:P.funcs[f]?=some fn) (hq:aF P f=some q) (hl:Nat.ble args.length fn.ntmps=true) (hr:fn.results= #[]) (hS:∀B,cS P [] B SP) (hB:∀id,eX id tb=false->SP.blocks id=none)
  (hx:oU P tb n fn q args M F=some (e,M',qs)) (he:e= .ret\/e= .normal) (hh:fS P SP qs):
  Ev P [] f args M (.tuple #[]) M':=by
 refine Ev.told hN hm hf hq hl hS hB (e:=e) (n:=n) (F:=F) (qs:=qs) ?_ he hh
 unfold oU at hx
 cases a0:oB P [] tb n fn.ntmps q (mR args 0 .nil) M F 0 with
 |none=>rw[a0] at hx;cases hx
 |some r=>
  rw[a0] at hx
  simp only [Option.map_some,Option.some.injEq,Prod.mk.injEq] at hx⊢
  refine⟨hx.1,?_,hx.2⟩
  unfold mD
  rw[hr]
  rfl
theorem Cg(a b:Nat)(h:Nat.beq a b=false):Nat.beq b a=false:=by
 cases hb:Nat.beq b a
 ·rfl
 ·rw[xBa hb,Nat.beq_refl] at h;cases h
theorem Jy{id k1 k2 k3:Nat}{g1 g2 g3:Code->St->Option (cT×St)}(h:eX id [k1,k2,k3]=false):qB [(k1,g1),(k2,g2),(k3,g3)] id=none:=by simp only [eX,Bool.or_eq_false_iff] at h;obtain⟨h1,h2,h3,_⟩:=h;unfold qB;rw[Cg _ _ h1];unfold qB;rw[Cg _ _ h2];unfold qB;rw[Cg _ _ h3];rfl
end Go.Am
end

noncomputable section
namespace Go.Am
open Go
variable{P:Program}
end Go.Am
end
noncomputable section
namespace Go.Am
open Go
end Go.Am
end

noncomputable section
namespace Go.Am
open Go
set_option linter.unusedVariables false
structure A7 where
 f:Int
 t:Int
 m:Int
 c:Int
 e:Int
 a:Int
 b:Int
abbrev dE(x:A7):List Value:=[i64 x.f,i64 x.t,i64 x.m,i64 x.c,i64 x.e,i64 x.a,i64 x.b]
instance:Va dE:=⟨fun x y h=>by cases x;cases y;simpa [dE,i64] using h⟩
abbrev cL:=Gp dE 7
def jZ(i:Int)(e:E4):A7:=⟨e.f,e.t,e.m,e.c,i,0,0⟩
def mN(x y:A7)(a b:Int):A7:=⟨x.f,y.t,x.m,x.c+y.c,-1,a,b⟩
def bP(n f t m:Int):Int:=(f*n+t)*5+m
def eN(cost:Int->Int)(was c:Int):Bool:=was== -1||decide (c<cost was)
structure HB where
 arcs:List A7
 cur:List Int
def eI(arcs:List A7)(i:Int):Int:=((arcs[i.toNat]?).map (·.c)).getD 0
def gI(es:List E4)(i:Int):Int:=((es[i.toNat]?).map (·.c)).getD 0
def iX(n:Nat)(a:A7):Nat:=(bP n a.f a.t a.m).toNat
def Ru(n:Nat)(e:E4):Nat:=(bP n e.f e.t e.m).toNat
def aK(cur:List Int)(k:Nat):Int:=(cur[k]?).getD (-1)
def iL(n:Nat)(s:HB)(a:A7):HB:=
 bif eN (eI s.arcs) (aK s.cur (iX n a)) a.c then⟨s.arcs++ [a],s.cur.set (iX n a) s.arcs.length⟩ else s
def iQ(n:Nat):List Int:=List.replicate (n*n*5) (-1)
def bC(n:Nat)(es:List E4):Nat->List Int
 |0=>iQ n
 |i+1=>match es[i]? with
  |some e=>bif eN (gI es) (aK (bC n es i) (Ru n e)) e.c then(bC n es i).set (Ru n e) i else bC n es i
  |none=>bC n es i
def gF(n:Nat)(es:List E4)(s:HB)(i:Int):HB:=bif i== -1 then s else match es[i.toNat]? with
 |some e=>iL n s (jZ i e)
 |none=>s
def nW(n:Nat)(es:List E4)(l:List Int):HB:=l.foldl (gF n es) ⟨[],iQ n⟩
def tN(n:Nat)(es:List E4):HB:=nW n es (bC n es es.length)
inductive Az where|out|inn
def aU(n:Nat)(w:Az)(v u m:Nat):Nat:=match w with
 | .out=>(v*n+u)*5+m
 | .inn=>(u*n+v)*5+m
def gX(n:Nat)(cur:List Int)(w:Az)(v u:Nat):Nat->List Int
 |0=>[]
 |m+1=>gX n cur w v u m++(bif aK cur (aU n w v u m)== -1 then[] else[aK cur (aU n w v u m)])
def bV(g:List Bool)(u:Nat):Bool:=(g[u]?).getD true
def dF(n:Nat)(cur:List Int)(g:List Bool)(w:Az)(v:Nat):Nat->List Int
 |0=>[]
 |u+1=>dF n cur g w v u++(bif bV g u then[] else gX n cur w v u 5)
abbrev bX(n:Nat)(cur:List Int)(g:List Bool)(w:Az)(v:Nat):List Int:=dF n cur g w v n
def sQ(n:Nat)(v:Nat)(i:Int)(s:HB)(o:Int):HB:=match s.arcs[i.toNat]?,s.arcs[o.toNat]? with
 |some x,some y=>bif y.t !=(v:Int)&&x.m==y.m then iL n s (mN x y i o) else s
 |_,_=>s
def tP(n v:Nat)(ups:List Int)(s:HB)(i:Int):HB:=ups.foldl (sQ n v i) s
def vC(n v:Nat)(ups downs:List Int)(s:HB):HB:=downs.foldl (tP n v ups) s
structure Er where
 b:HB
 gone:List Bool
 rank:List Int
 up:List (List Int)
 down:List (List Int)
def wK(n:Nat)(s:Er)(v:Nat):Er:=
 let u:=bX n s.b.cur s.gone .out v
 let g:=s.gone.set v true
 let d:=bX n s.b.cur g .inn v
 ⟨vC n v u d s.b,g,s.rank,s.up.set v u,s.down.set v d⟩
def fP(n:Nat)(es:List E4)(l:List Int):Nat->Er
 |0=>⟨tN n es,List.replicate n false,List.replicate n (-1),List.replicate n [],List.replicate n []⟩
 |i+1=>match l[i]? with
  |some v=>wK n {fP n es l i with rank:=(fP n es l i).rank.set v.toNat i} v.toNat
  |none=>fP n es l i
def cX(n:Nat)(s:Er):Nat->Er
 |0=>s
 |v+1=>bif bV (cX n s v).gone v then cX n s v else{cX n s v with up:=(cX n s v).up.set v (bX n (cX n s v).b.cur (cX n s v).gone .out v)}
def kJ(n:Nat)(es:List E4)(l:List Int):Er:=cX n (fP n es l l.length) n
structure HI(n:Nat)(C:Int)(s:HB):Prop where
 len:s.cur.length=n*n*5
 cur:∀(k:Nat) (i:Int),s.cur[k]?=some i->i= -1\/(0<=i/\∃a,s.arcs[i.toNat]?=some a/\iX n a=k)
 arc:∀a∈s.arcs,(0<=a.f/\a.f<n)/\(0<=a.t/\a.t<n)/\(0<=a.m/\a.m<5)/\0<=a.c/\a.c<=C
theorem mJ{n:Nat}{f t m:Int}(hf:0<=f/\f<n)(ht:0<=t/\t<n)(hm:0<=m/\m<5):0<=bP n f t m/\bP n f t m<((n*n*5:Nat):Int):=by
 unfold bP;have h1:0<=f*n:=Int.mul_nonneg hf.1 (by omega);have h2:f*n<=(n-1)*n:=Int.mul_le_mul_of_nonneg_right (by omega) (by omega);have h3:((n:Int)-1)*n=n*n-n:=by rw[Int.sub_mul,Int.one_mul]
 have h4:((n*n*5:Nat):Int)=(n:Int)*n*5:=by push_cast;rfl
 rw[h4];constructor
 ·omega
 ·omega
theorem Ua{n:Nat}{f t m f' t' m':Int}(hf:0<=f/\f<n)(ht:0<=t/\t<n)(hm:0<=m/\m<5)(hf':0<=f'/\f'<n)(a0:0<=t'/\t'<n)(hm':0<=m'/\m'<5)(h:bP n f t m=bP n f' t' m'):f=f'/\t=t'/\m=m':=by
 unfold bP at h;have e1:f*n+t=f'*n+t':=by omega
 have e2:m=m':=by omega
 have hn:(0:Int)<n:=by omega
 have e3:(f*n+t)/n=f:=by rw[Int.add_comm,Int.add_mul_ediv_right _ _ (by omega),Int.ediv_eq_zero_of_lt ht.1 ht.2];omega
 have e4:(f'*n+t')/n=f':=by rw[Int.add_comm,Int.add_mul_ediv_right _ _ (by omega),Int.ediv_eq_zero_of_lt a0.1 a0.2];omega
 have e5:f=f':=by rw[<-e3,<-e4,e1]
 subst e5;exact⟨rfl,by omega,e2⟩
theorem eL{cur:List Int}{k:Nat}(h:k<cur.length):cur[k]?=some (aK cur k):=by unfold aK;rw[xAe h];rfl
theorem HI.offer{n:Nat}{C:Int}{s:HB}(h:HI n C s){a:A7}(hf:0<=a.f/\a.f<n)(ht:0<=a.t/\a.t<n)(hm:0<=a.m/\a.m<5)(hc:0<=a.c/\a.c<=C):HI n C (iL n s a):=by
 unfold iL;cases hq:eN (eI s.arcs) (aK s.cur (iX n a)) a.c with
 |false=>exact h
 |true=>
  have hp:=mJ hf ht hm
  have hk:iX n a<s.cur.length:=by rw[h.len];unfold iX;omega
  refine⟨by simpa using h.len,fun k i hi=>?_,fun x hx=>?_⟩
  ·simp only [cond_true] at hi⊢;rw[List.getElem?_set] at hi;by_cases hkk:iX n a=k
   ·subst hkk;rw[if_pos rfl,if_pos hk] at hi;have:=Option.some.inj hi;subst this;refine .inr ⟨by omega,a,?_,rfl⟩;rw[Int.toNat_natCast,List.getElem?_append_right (Nat.le_refl _),Nat.sub_self];rfl
   ·rw[if_neg hkk] at hi;rcases h.cur k i hi with h1|⟨h1,x,h2,h3⟩
    ·exact .inl h1
    ·refine .inr ⟨h1,x,?_,h3⟩;rw[List.getElem?_append_left (xAg.1 h2).1];exact h2
  ·simp only [cond_true] at hx;rcases List.mem_append.1 hx with hx|hx
   ·exact h.arc x hx
   ·rw[List.mem_singleton.1 hx];exact⟨hf,ht,hm,hc⟩
theorem wO(n:Nat)(s:HB)(a:A7):s.arcs.length<=(iL n s a).arcs.length/\(iL n s a).arcs.length<=s.arcs.length+1:=by unfold iL;cases eN (eI s.arcs) (aK s.cur (iX n a)) a.c<;>simp
theorem Nz{n:Nat}{s:HB}{a x:A7}{i:Nat}(h:s.arcs[i]?=some x):(iL n s a).arcs[i]?=some x:=by
 unfold iL;cases eN (eI s.arcs) (aK s.cur (iX n a)) a.c
 ·exact h
 ·simp only [cond_true];rw[List.getElem?_append_left (xAg.1 h).1];exact h
theorem Gl(n:Nat):(iQ n).length=n*n*5:=by simp [iQ]
theorem HI.zero(n:Nat)(C:Int):HI n C ⟨[],iQ n⟩:=by
 refine⟨Gl n,fun k i hi=> .inl ?_,fun a ha=>by cases ha⟩;simp only [iQ,List.getElem?_replicate] at hi;split at hi
 ·exact(Option.some.inj hi).symm
 ·cases hi
def sW(n:Nat)(es:List E4):Prop:=∀e∈es,(0<=e.f/\e.f<n)/\(0<=e.t/\e.t<n)/\(0<=e.m/\e.m<5)/\0<=e.c/\e.c<=2147483647
theorem iZ(n:Nat)(es:List E4)(i:Nat):(bC n es i).length=n*n*5:=by
 induction i with
 |zero=>exact Gl n
 |succ i ih=>
  unfold bC
  split
  ·rename_i e he;cases eN (gI es) (aK (bC n es i) (Ru n e)) e.c<;>simpa using ih
  ·exact ih
theorem mG(n:Nat)(es:List E4)(i:Nat):∀(k:Nat) (x:Int),(bC n es i)[k]?=some x->x= -1\/(0<=x/\x<i/\∃e,es[x.toNat]?=some e/\Ru n e=k):=by
 induction i with
 |zero=>
  intro k x hx
  simp only [bC,iQ,List.getElem?_replicate] at hx
  split at hx
  ·exact .inl (Option.some.inj hx).symm
  ·cases hx
 |succ i ih=>
  intro k x hx
  unfold bC at hx
  have old:(bC n es i)[k]?=some x->x= -1\/(0<=x/\x<((i+1:Nat):Int)/\∃e,es[x.toNat]?=some e/\Ru n e=k):=fun hh=>by
   rcases ih k x hh with h1|⟨h1,h2,h3⟩
   ·exact .inl h1
   ·exact .inr ⟨h1,by omega,h3⟩
  split at hx
  ·rename_i e he;cases hq:eN (gI es) (aK (bC n es i) (Ru n e)) e.c<;>rw[hq] at hx
   ·exact old hx
   ·simp only [cond_true] at hx;rw[List.getElem?_set] at hx;split at hx
    ·rename_i hk;split at hx
     ·have:=Option.some.inj hx;subst this;exact .inr ⟨by omega,by omega,e,by rw[Int.toNat_natCast];exact he,hk⟩
     ·cases hx
    ·exact old hx
  ·exact old hx
theorem HI.begin{n:Nat}{C:Int}{es:List E4}(a0:sW n es)(hC:2147483647<=C):∀(l:List Int),HI n C (nW n es l)/\(nW n es l).arcs.length<=l.length:=by
 intro l;unfold nW;have:∀(l:List Int) (s:HB),HI n C s->HI n C (l.foldl (gF n es) s)/\(l.foldl (gF n es) s).arcs.length<=s.arcs.length+l.length:=by
  intro l;induction l with
  |nil=>intro s h;exact⟨h,Nat.le_refl _⟩
  |cons x l ih=>
   intro s h
   have h1:HI n C (gF n es s x)/\(gF n es s x).arcs.length<=s.arcs.length+1:=by
    unfold gF;cases x==(-1:Int)
    ·simp only [cond_false];split
     ·rename_i e he;obtain⟨q1,q2,q3,q4⟩:=a0 e (xAh he);exact⟨h.offer q1 q2 q3 ⟨q4.1,Int.le_trans q4.2 hC⟩,(wO n s _).2⟩
     ·exact⟨h,by omega⟩
    ·exact⟨h,by simp⟩
   obtain⟨h2,h3⟩:=ih _ h1.1
   refine⟨h2,?_⟩
   simp only [List.foldl_cons,List.length_cons]
   omega
 have h:=this l ⟨[],iQ n⟩ (HI.zero n C);exact⟨h.1,by simpa using h.2⟩
theorem xZ(n:Nat)(cur:List Int)(w:Az)(v u m:Nat):(gX n cur w v u m).length<=m:=by
 induction m with
 |zero=>simp [gX]
 |succ m ih=>
  unfold gX
  cases aK cur (aU n w v u m)==(-1:Int)<;>simp<;>omega
theorem jO(n:Nat)(cur:List Int)(g:List Bool)(w:Az)(v u:Nat):(dF n cur g w v u).length<=5*u:=by
 induction u with
 |zero=>simp [dF]
 |succ u ih=>
  have:=xZ n cur w v u 5
  unfold dF
  cases bV g u<;>simp<;>omega
theorem Tq{n:Nat}{cur:List Int}{w:Az}{v u m:Nat}{i:Int}(h:i∈gX n cur w v u m):i≠ -1/\∃k,k<m/\aK cur (aU n w v u k)=i:=by
 induction m with
 |zero=>simp [gX] at h
 |succ m ih=>
  unfold gX at h
  rcases List.mem_append.1 h with h|h
  ·obtain⟨h1,k,h2,h3⟩:=ih h;exact⟨h1,k,by omega,h3⟩
  ·cases hq:aK cur (aU n w v u m)==(-1:Int)<;>rw[hq] at h
   ·simp only [cond_false,List.mem_singleton] at h;subst h;exact⟨fun e=>by(rw[e] at hq;cases hq),m,by omega,rfl⟩
   ·cases h
theorem Qp{n:Nat}{cur:List Int}{g:List Bool}{w:Az}{v u:Nat}{i:Int}(h:i∈dF n cur g w v u):i≠ -1/\∃x k,x<u/\bV g x=false/\k<5/\aK cur (aU n w v x k)=i:=by
 induction u with
 |zero=>simp [dF] at h
 |succ u ih=>
  unfold dF at h
  rcases List.mem_append.1 h with h|h
  ·obtain⟨h1,x,k,h2,h3⟩:=ih h;exact⟨h1,x,k,by omega,h3⟩
  ·cases hq:bV g u<;>rw[hq] at h
   ·obtain⟨h1,k,h2,h3⟩:=Tq h;exact⟨h1,u,k,by omega,hq,h2,h3⟩
   ·cases h
theorem iU{n:Nat}{w:Az}{v u m:Nat}(hv:v<n)(hu:u<n)(hm:m<5):aU n w v u m<n*n*5:=by
 have:∀a b:Nat,a<n->b<n->(a*n+b)*5+m<n*n*5:=fun a b ha hb=>by
  have:a*n<=(n-1)*n:=Nat.mul_le_mul_right _ (by omega);have h3:(n-1)*n=n*n-n:=by rw[Nat.sub_mul,Nat.one_mul]
  have h4:n<=n*n:=Nat.le_mul_of_pos_left _ (by omega);omega
 cases w
 ·exact this v u hv hu
 ·exact this u v hu hv
theorem HI.row{n:Nat}{C:Int}{s:HB}(h:HI n C s){g:List Bool}{w:Az}{v:Nat}(hv:v<n){i:Int}(hi:i∈bX n s.cur g w v):0<=i/\∃a x k,s.arcs[i.toNat]?=some a/\x<n/\bV g x=false/\k<5/\a.m=((k:Nat):Int)/\(match w with| .out=>a.f=(v:Int)/\a.t=(x:Int)| .inn=>a.f=(x:Int)/\a.t=(v:Int)):=by
 obtain⟨h1,x,k,h2,h3,h4,h5⟩:=Qp hi;have hk:=iU (w:=w) hv h2 h4;have hs:=eL (cur:=s.cur) (by rw[h.len];exact hk);rw[h5] at hs;rcases h.cur _ _ hs with e|⟨e1,a,e2,e3⟩
 ·exact absurd e h1
 ·obtain⟨q1,q2,q3,_⟩:=h.arc a (xAh e2);have hp:=mJ q1 q2 q3;unfold iX at e3;have e4:bP n a.f a.t a.m=((aU n w v x k:Nat):Int):=by omega
  refine⟨e1,a,x,k,e2,h2,h3,h4,?_⟩;cases w
  ·have e5:((aU n .out v x k:Nat):Int)=bP n (v:Int) (x:Int) (k:Int):=by unfold aU bP;push_cast;rfl
   obtain⟨r1,r2,r3⟩:=Ua q1 q2 q3 (by omega) (by omega) (by omega) (e4.trans e5);exact⟨r3,r1,r2⟩
  ·have e5:((aU n .inn v x k:Nat):Int)=bP n (x:Int) (v:Int) (k:Int):=by unfold aU bP;push_cast;rfl
   obtain⟨r1,r2,r3⟩:=Ua q1 q2 q3 (by omega) (by omega) (by omega) (e4.trans e5);exact⟨r3,r1,r2⟩
structure zT(n:Nat)(C:Int)(s0:HB)(k:Nat)(s:HB):Prop where
 hi:HI n (2*C) s
 old:∀(i:Nat) (x:A7),s0.arcs[i]?=some x->s.arcs[i]?=some x
 len:s.arcs.length<=s0.arcs.length+k
theorem HI.mono{n:Nat}{C D:Int}{s:HB}(h:HI n C s)(hd:C<=D):HI n D s:=⟨h.len,h.cur,fun a ha=>by obtain⟨h1,h2,h3,h4⟩:=h.arc a ha;exact⟨h1,h2,h3,h4.1,Int.le_trans h4.2 hd⟩⟩
theorem zT.zero{n:Nat}{C:Int}{s:HB}(hC:0<=C)(h:HI n C s):zT n C s 0 s:=⟨h.mono (by omega),fun _ _ h=>h,Nat.le_refl _⟩
theorem zT.one{n v k:Nat}{C:Int}{s0 s:HB}{i o:Int}(h0:HI n C s0)(h:zT n C s0 k s)(hi:i.toNat<s0.arcs.length)(ho:o.toNat<s0.arcs.length):zT n C s0 (k+1) (sQ n v i s o):=by
 have e1:=xAe hi;have e2:=xAe ho;unfold sQ;rw[h.old _ _ e1,h.old _ _ e2];simp only;cases hq:s0.arcs[o.toNat].t !=(v:Int)&&s0.arcs[i.toNat].m==s0.arcs[o.toNat].m with
 |false=>exact⟨h.hi,h.old,by have:=h.len;simp only [cond_false];omega⟩
 |true=>
  simp only [cond_true]
  obtain⟨p1,p2,p3,p4⟩:=h0.arc _ (xAh e1)
  obtain⟨q1,q2,q3,q4⟩:=h0.arc _ (xAh e2)
  refine⟨h.hi.offer (a:=mN _ _ i o) p1 q2 p3 ?_,fun j x hj=>Nz (h.old j x hj),?_⟩
  ·unfold mN;simp only;omega
  ·have:=h.len;have:=(wO n s (mN s0.arcs[i.toNat] s0.arcs[o.toNat] i o)).2;omega
theorem zT.row{n v k:Nat}{C:Int}{s0 s:HB}{i:Int}{ups:List Int}(h0:HI n C s0)(h:zT n C s0 k s)(hi:i.toNat<s0.arcs.length)(ho:∀o∈ups,o.toNat<s0.arcs.length):zT n C s0 (k+ups.length) (tP n v ups s i):=by
 unfold tP;induction ups generalizing k s with
 |nil=>exact h
 |cons o ups ih=>
  have:=ih (h.one (v:=v) h0 hi (ho o (List.mem_cons_self ..))) (fun x hx=>ho x (List.mem_cons_of_mem _ hx))
  rw[List.foldl_cons,List.length_cons]
  exact(show k+(ups.length+1)=k+1+ups.length by omega)▸this
theorem zT.all{n v k:Nat}{C:Int}{s0 s:HB}{ups a0:List Int}(h0:HI n C s0)(h:zT n C s0 k s)(hi:∀i∈a0,i.toNat<s0.arcs.length)(ho:∀o∈ups,o.toNat<s0.arcs.length):zT n C s0 (k+a0.length*ups.length) (vC n v ups a0 s):=by
 unfold vC;induction a0 generalizing k s with
 |nil=>simpa using h
 |cons i a0 ih=>
  have:=ih (h.row (v:=v) h0 (hi i (List.mem_cons_self ..)) ho) (fun x hx=>hi x (List.mem_cons_of_mem _ hx))
  rw[List.foldl_cons,List.length_cons]
  exact(show k+(a0.length+1)*ups.length=k+ups.length+a0.length*ups.length by rw[Nat.succ_mul];omega)▸this
structure HG(n:Nat)(C:Int)(k:Nat)(s:Er):Prop where
 hi:HI n C s.b
 len:s.b.arcs.length<=k
 gone:s.gone.length=n
 rank:s.rank.length=n
 up:s.up.length=n
 down:s.down.length=n
theorem HG.leave{n k v:Nat}{C:Int}{s:Er}(hC:0<=C)(h:HG n C k s)(hv:v<n):HG n (2*C) (k+25*n*n) (wK n s v):=by
 have hm:∀(g:List Bool) (w:Az),∀i∈bX n s.b.cur g w v,i.toNat<s.b.arcs.length:=fun g w i hi=>by
  obtain⟨_,a,_,_,e,_⟩:=h.hi.row hv hi;exact(xAg.1 e).1
 have hb:=(zT.zero hC h.hi).all (v:=v) h.hi (hm (s.gone.set v true) .inn) (hm s.gone .out);have l1:=jO n s.b.cur s.gone .out v n;have l2:=jO n s.b.cur (s.gone.set v true) .inn v n;have l3:(bX n s.b.cur (s.gone.set v true) .inn v).length*(bX n s.b.cur s.gone .out v).length<=25*n*n:=by
  refine Nat.le_trans (Nat.mul_le_mul l2 l1) (Nat.le_of_eq ?_);rw[Nat.mul_mul_mul_comm,Nat.mul_assoc 25]
 exact⟨hb.hi,by show(vC n v _ _ s.b).arcs.length<=_;have:=hb.len;have:=h.len;omega,by unfold wK;simpa using h.gone,h.rank,by unfold wK;simpa using h.up,by unfold wK;simpa using h.down⟩
theorem HG.begin{n:Nat}{es:List E4}{l:List Int}(hes:sW n es):HG n 2147483647 (n*n*5) (fP n es l 0):=by
 obtain⟨h1,h2⟩:=HI.begin (C:=2147483647) hes (by omega) (bC n es es.length);refine⟨h1,?_,?_,?_,?_,?_⟩
 ·rw[iZ] at h2;exact h2
 all_goals simp [fP]
theorem HG.go{n:Nat}{es:List E4}{l:List Int}(a0:sW n es)(hl:∀v∈l,0<=v/\v<n):∀i,i<=l.length->HG n (2147483647*2^i) (n*n*5+i*(25*n*n)) (fP n es l i):=by
 intro i;induction i with
 |zero=>intro _;simpa using HG.begin (l:=l) a0
 |succ i ih=>
  intro hi
  have h:=ih (by omega)
  have e:=xAe (show i<l.length by omega)
  unfold fP
  rw[e]
  simp only
  have hv:=hl _ (List.getElem_mem (show i<l.length by omega))
  have h2:HG n (2147483647*2^i) (n*n*5+i*(25*n*n)) {fP n es l i with rank:=(fP n es l i).rank.set l[i].toNat i}:=⟨h.hi,h.len,h.gone,by simpa using h.rank,h.up,h.down⟩
  have hC:(0:Int)<=2147483647*2^i:=by have:(0:Int)<=2^i:=Int.pow_nonneg (by omega);omega
  have h3:=h2.leave (v:=l[i].toNat) hC (by omega)
  have e2:(2147483647:Int)*2^(i+1)=2*(2147483647*2^i):=by rw[Int.pow_succ];omega
  have e3:n*n*5+(i+1)*(25*n*n)=n*n*5+i*(25*n*n)+25*n*n:=by rw[Nat.succ_mul];omega
  rw[e2,e3]
  exact h3
end Go.Am
end

noncomputable section
namespace Go.Am
open Go
set_option linter.unusedVariables false
variable{P:Program}
def zW(M M':aB):Prop:=∀id,M.get id=M'.get id
structure OB(α:Type) where
 A:α->List Value->aB->Prop
 lo:α->Nat
 own:α->Nat->Prop
 R:α->Value->aB->aB->Prop
class Xc {α:Type} (o:OB α):Prop where
 uniq:∀{x y:α} {l:List Value} {M:aB},o.A x l M->o.A y l M->x=y
 log:∀{x:α} {l:List Value} {M M':aB},zW M M'->o.A x l M->o.A x l M'
 res:∀{x:α} {v:Value} {M M1 M' M1':aB},M.next=M1.next->zW M M1->zW M' M1'->o.R x v M M'->o.R x v M1 M1'
def Mh{α:Type}(o:OB α)(l:List Value)(M:aB)(v:Value)(M':aB):Prop:=∃x,o.A x l M/\o.lo x<=M.next/\Ext (cut (o.lo x) M) M'/\(∀id k,M.get id=some k->¬o.own x id->M'.get id=some k)/\o.R x v M M'
abbrev TO{α:Type}(P:Program)(f:FuncId)(o:OB α):=TC P [] f (Mh o)
theorem jT{α:Type}{o:OB α} [Xc o]{f:FuncId}{x:α}{l:List Value}{M M0:aB}(hM:aA M)(X:Ext M0 M)(hb:M0.next<=o.lo x)(a0:o.lo x<=M.next)(h:o.A x l M)(hK:∀{M:aB},aA M->o.A x l M->o.lo x<=M.next->∃v M',TO P f o l M v M'):
  ∃t v M1,(∀SP:dC,SP.calls f=some (pick (TO P f o))->OQ.holds P SP (.cl f l M ((bif t then 1 else 2),.val v,M1)))/\Ext M0 M1/\aA M1/\M.next<=M1.next/\(∀id k,M.get id=some k->¬o.own x id->M1.get id=some k)/\o.R x v M M1:=by
 have hs:zW M {M with log:=[]}:=fun _=>rfl
 have h0:=Xc.log hs h
 obtain⟨t,v,M',M1,h1,h2,h3,h4,⟨y,k1,_,_,k5,k6⟩,h6⟩:=Vj hM X hb a0 (hK (aA.log hM) h0 a0) (fun v M' ⟨y,k1,_,k4,_⟩=>by rw[Xc.uniq h0 k1];exact k4)
 obtain rfl:=Xc.uniq h0 k1
 exact⟨t,v,M1,h1,h2,h3,h4,fun id k hg hid=>by rw[h6];exact k5 id k hg hid,Xc.res (o:=o) (M:={M with log:=[]}) (M':=M') rfl (fun _=>rfl) (fun id=>(h6 id).symm) k6⟩
end Go.Am
end

noncomputable section
namespace Go.Am
open Go
set_option linter.unusedVariables false
structure BK where
 B:Nat
 C:Nat
 K:Nat
 G:Nat
 R:Nat
 U:Nat
 D:Nat
structure mT where
 k:BK
 n:Nat
 es:List E4
 ev:Value
 S:Value
 s:Er
 us:List Value
 ds:List Value
def BK.ids(k:BK):List Nat:=[k.B,k.C,k.K,k.G,k.R,k.U,k.D]
def BK.hide(k:BK):List (Nat×Nat):=[(k.B,k.B+1),(k.C,k.C+1),(k.K,k.K+1),(k.G,k.G+1),(k.R,k.R+1),(k.U,k.U+1),(k.D,k.D+1)]
def dV(rs:List (List Int))(us:List Value)(M:aB):Prop:=us.length=rs.length/\∀(u:Nat) (r:List Int),rs[u]?=some r->∃x,us[u]?=some x/\aH r x M
theorem dV.ext{rs:List (List Int)}{us:List Value}{M M':aB}(hE:∀id b,M.get id=some b->M'.get id=some b)(h:dV rs us M):dV rs us M':=
 ⟨h.1,fun u r hr=>by obtain⟨x,h1,h2⟩:=h.2 u r hr;exact⟨x,h1,AP.ext (R:=aH) hE h2⟩⟩
theorem dV.uniq{rs a0:List (List Int)}{us:List Value}{M:aB}(h:dV rs us M)(h':dV a0 us M):rs=a0:=by
 apply List.ext_getElem?;intro u;cases e:rs[u]? with
 |none=>
  have:=List.getElem?_eq_none_iff.1 e
  exact(List.getElem?_eq_none (by rw[<-h'.1,h.1];exact this)).symm
 |some r=>
  have hl:=(xAg.1 e).1
  have e':=xAe (show u<a0.length by rw[<-h'.1,h.1];exact hl)
  obtain⟨x,h1,h2⟩:=h.2 u r e
  obtain⟨y,k1,k2⟩:=h'.2 u _ e'
  rw[h1] at k1
  obtain rfl:=Option.some.inj k1
  rw[e',AP.uniq (R:=aH) h2 k2]
def BK.a(k:BK)(S:Value):Nat:=match S with| .slice (some ad) _ _=>ad.block|_=>k.B
def BK.hideS(k:BK)(S:Value):List (Nat×Nat):=(0,k.G)::(k.a S,k.a S+1)::k.hide
def dQ(tA lo:Nat)(bad:List Nat)(arcs:List A7)(S:Value)(M:aB):Prop:=(S=dP/\arcs=[])\/∃b,S=aC b 0 arcs.length arcs.length/\arcs≠ []/\lo<=b/\b∉bad/\M.get b=some ⟨(arcs.map dE).flatten,tA,7,0,true⟩
theorem Rt(l:List A7):((l.map dE).flatten).length=l.length*7:=by
 induction l with
 |nil=>rfl
 |cons e l ih=>simp only [List.map_cons,List.flatten_cons,List.length_append,ih,List.length_cons];simp;omega
theorem dQ.acc{tA lo:Nat}{bad:List Nat}{arcs:List A7}{S:Value}{M M0:aB}(h:dQ tA lo bad arcs S M)(h0:M0.next<=lo):cM tA 7 M0 bad arcs.length ((arcs.map dE).flatten) S M:=by
 rcases h with⟨rfl,rfl⟩|⟨b,h1,h2,h3,h4,h5⟩
 ·exact .inl ⟨rfl,rfl,rfl⟩
 ·exact .inr ⟨b,h1,List.length_pos_iff.2 h2,Rt arcs,by omega,h4,h5⟩
theorem dQ.of_acc{tA lo:Nat}{bad:List Nat}{arcs:List A7}{S:Value}{M M0:aB}{n:Nat}{cs:List Value}(h:cM tA 7 M0 bad n cs S M)(hn:n=arcs.length)(hc:cs=(arcs.map dE).flatten)(h0:lo<=M0.next):dQ tA lo bad arcs S M:=by
 subst hn;subst hc;rcases h with⟨rfl,h1,_⟩|⟨b,h1,h2,h3,h4,h5,h6⟩
 ·exact .inl ⟨rfl,List.eq_nil_of_length_eq_zero h1⟩
 ·exact .inr ⟨b,h1,List.length_pos_iff.1 h2,by omega,h5,h6⟩
theorem dQ.rows{tA lo:Nat}{bad:List Nat}{arcs:List A7}{S:Value}{M:aB}(h:dQ tA lo bad arcs S M)(hl:arcs.length<=9223372036854775807):cL arcs S M:=by
 rcases h with⟨rfl,rfl⟩|⟨b,rfl,h2,h3,h4,h5⟩
 ·exact aG.nil none
 ·exact aG.of_blk' h5 rfl rfl (fun _ _=>rfl) hl
theorem dQ.same{tA lo:Nat}{bad:List Nat}{arcs:List A7}{S:Value}{M M':aB}(hE:∀id b,M.get id=some b->M'.get id=some b)(h:dQ tA lo bad arcs S M):dQ tA lo bad arcs S M':=by
 rcases h with h|⟨b,h1,h2,h3,h4,h5⟩
 ·exact .inl h
 ·exact .inr ⟨b,h1,h2,h3,h4,hE _ _ h5⟩
theorem Cv:∀{l l':List A7},(l.map dE).flatten=(l'.map dE).flatten->l=l'
 | [],[],_=>rfl
 | [],_::_,h=>by simp [dE] at h
 |_::_,[],h=>by simp [dE] at h
 |x::l,y::l',h=>by
  simp only [List.map_cons,List.flatten_cons] at h;have h1:=List.append_inj h (by simp [dE]);rw[Va.inj _ _ h1.1,Cv h1.2]
theorem dQ.uniq{tA lo lo':Nat}{bad a1:List Nat}{arcs a0:List A7}{S:Value}{M:aB}(h:dQ tA lo bad arcs S M)(k:dQ tA lo' a1 a0 S M):arcs=a0:=by
 rcases h with⟨rfl,rfl⟩|⟨b,rfl,h2,h3,h4,h5⟩<;>rcases k with⟨k1,rfl⟩|⟨b',k1,k2,k3,k4,k5⟩
 ·rfl
 ·cases k1
 ·cases k1
 ·simp only [Value.slice.injEq,Option.some.injEq,Addr.mk.injEq,and_true] at k1;obtain⟨rfl,_⟩:=k1;rw[h5] at k5;simp only [Option.some.injEq,aR.mk.injEq,and_true] at k5;exact Cv k5
section
variable(tB tC tA tI:TypeId)(fA:FuncId)
structure dG(x:mT)(M:aB):Prop where
 gB:M.get x.k.B=some ⟨[i64 ((x.n:Nat):Int),x.ev,aC x.k.R 0 x.n (x.n+1),x.S,aC x.k.U 0 x.n (x.n+1),aC x.k.D 0 x.n (x.n+1),pt x.k.C 0,aC x.k.G 0 x.n (x.n+1)],tB,8,0,true⟩
 gC:M.get x.k.C=some ⟨[i64 ((x.n:Nat):Int),aC x.k.K 0 (x.n*x.n*5) (x.n*x.n*5+1),.func (.func fA) #[pt x.k.B 0] #[]],tC,3,0,true⟩
 gK:M.get x.k.K=some ⟨x.s.b.cur.map i64,3,1,0,true⟩
 gG:M.get x.k.G=some ⟨x.s.gone.map .bool,4,1,0,true⟩
 gR:M.get x.k.R=some ⟨x.s.rank.map i64,3,1,0,true⟩
 gU:M.get x.k.U=some ⟨x.us,tI,1,0,true⟩
 gD:M.get x.k.D=some ⟨x.ds,tI,1,0,true⟩
 acc:dQ tA x.k.G x.k.ids x.s.b.arcs x.S M
 lo:∀i∈x.k.ids,x.k.G<=i
 nd:x.k.ids.Nodup
 es:aQ x.es x.ev (bS (x.k.hideS x.S) M)
 up:dV x.s.up x.us (bS (x.k.hideS x.S) M)
 down:dV x.s.down x.ds (bS (x.k.hideS x.S) M)
end
theorem Vq{k:BK}{S:Value}{id:Nat}:(¬bD (k.hideS S) id=true)↔(id≠k.a S/\id∉k.ids/\k.G<=id):=by unfold BK.hideS BK.hide BK.ids;simp only [bJ,gL,and_true,List.mem_cons,List.not_mem_nil,or_false,not_or];omega
theorem jK{k:BK}{S:Value}{M:aB}{id:Nat}{b:aR}:(bS (k.hideS S) M).get id=some b↔(id≠k.a S/\id∉k.ids/\k.G<=id)/\M.get id=some b:=by rw[bM,Vq]
def mT.own(x:mT)(id:Nat):Prop:=id=x.k.a x.S\/id∈x.k.ids
theorem dY{x:mT}{S':Value}{M M':aB}(hk:∀id b,M.get id=some b->¬x.own id->M'.get id=some b)(hS:x.k.a S'=x.k.a x.S\/x.k.a S'=x.k.B\/M.next<=x.k.a S'):∀id b,(bS (x.k.hideS x.S) M).get id=some b->(bS (x.k.hideS S') M').get id=some b:=fun id b hg=>by
 rw[jK] at hg⊢;refine⟨⟨?_,hg.1.2⟩,hk id b hg.2 (fun hh=>hh.elim hg.1.1 hg.1.2.1)⟩;have hlt:=aB.lt_of_get hg.2;rcases hS with e|e|e
 ·rw[e];exact hg.1.1
 ·rw[e];exact fun h0=>hg.1.2.1 (by rw[h0];unfold BK.ids;simp)
 ·omega
section
variable{tB tC tA tI:TypeId}{fA:FuncId}
theorem zW.hid{k:BK}{S:Value}{M M':aB}(h:zW M M'):∀id b,(bS (k.hideS S) M).get id=some b->(bS (k.hideS S) M').get id=some b:=fun id b hg=>by
 rw[jK] at hg⊢;exact⟨hg.1,by rw[<-h id];exact hg.2⟩
theorem dG.same{x:mT}{M M':aB}(hs:zW M M')(h:dG tB tC tA tI fA x M):dG tB tC tA tI fA x M':=by
 have e:∀id b,M.get id=some b->M'.get id=some b:=fun id b hg=>by rw[<-hs id];exact hg
 exact⟨e _ _ h.gB,e _ _ h.gC,e _ _ h.gK,e _ _ h.gG,e _ _ h.gR,e _ _ h.gU,e _ _ h.gD,h.acc.same e,h.lo,h.nd,AP.ext (R:=aQ) (hs.hid) h.es,h.up.ext hs.hid,h.down.ext hs.hid⟩
theorem pD{l l':List Int}(h:l.map i64=l'.map i64):l=l':=(List.map_inj_right (fun x y h=>by simpa [i64] using h)).1 h
theorem dG.uniq{x y:mT}{M:aB}(h:dG tB tC tA tI fA x M)(k:dG tB tC tA tI fA y M)(he:x.k.B=y.k.B):x=y:=by
 obtain⟨⟨B,C,K,G,R,U,D⟩,n,es,ev,S,⟨⟨arcs,cur⟩,gone,rank,up,down⟩,us,ds⟩:=x;obtain⟨⟨B',C',K',G',R',U',D'⟩,n',es',ev',S',⟨⟨arcs',cur'⟩,a0,rank',up',down'⟩,us',ds'⟩:=y;simp only at he;subst he;have e1:=h.gB;have e2:=k.gB;simp only at e1 e2;rw[e1] at e2;simp only [Option.some.injEq,aR.mk.injEq,List.cons.injEq,Value.slice.injEq,Addr.mk.injEq,and_true,i64,Value.int.injEq,true_and,pt,Value.pointer.injEq] at e2;obtain⟨hn,rfl,⟨rfl,_⟩,rfl,⟨rfl,_⟩,⟨rfl,_⟩,rfl,rfl,_⟩:=e2;obtain rfl:n=n':=by omega
 have e1:=h.gC;have e2:=k.gC;simp only at e1 e2;rw[e1] at e2;simp only [Option.some.injEq,aR.mk.injEq,List.cons.injEq,Value.slice.injEq,Addr.mk.injEq,and_true,true_and] at e2;obtain rfl:=e2;have e1:=h.gK;have e2:=k.gK;simp only at e1 e2;rw[e1] at e2;simp only [Option.some.injEq,aR.mk.injEq,and_true] at e2;obtain rfl:=pD e2;have e1:=h.gG;have e2:=k.gG;simp only at e1 e2;rw[e1] at e2;simp only [Option.some.injEq,aR.mk.injEq,and_true] at e2;obtain rfl:gone=a0:=(List.map_inj_right (fun x y h=>by simpa using h)).1 e2;have e1:=h.gR;have e2:=k.gR;simp only at e1 e2;rw[e1] at e2;simp only [Option.some.injEq,aR.mk.injEq,and_true] at e2;obtain rfl:=pD e2;have e1:=h.gU;have e2:=k.gU;simp only at e1 e2;rw[e1] at e2;simp only [Option.some.injEq,aR.mk.injEq,and_true] at e2;obtain rfl:=e2;have e1:=h.gD;have e2:=k.gD;simp only at e1 e2;rw[e1] at e2;simp only [Option.some.injEq,aR.mk.injEq,and_true] at e2;obtain rfl:=e2;obtain rfl:=dQ.uniq h.acc k.acc;obtain rfl:=AP.uniq (R:=aQ) h.es k.es;obtain rfl:=h.up.uniq k.up;obtain rfl:=h.down.uniq k.down;rfl
def obB(tB tC tA tI:TypeId)(fA:FuncId){β:Type}(ar:β->List Value)(ok:mT->β->Prop)(R:mT->β->Value->Er->Prop):OB (mT×β) where
 A:=fun x l M=>l=pt x.1.k.B 0::ar x.2/\dG tB tC tA tI fA x.1 M/\ok x.1 x.2
 lo:=fun x=>x.1.k.G
 own:=fun x id=>x.1.own id
 R:=fun x v M M'=>∃S us ds s,dG tB tC tA tI fA {x.1 with S:=S,us:=us,ds:=ds,s:=s} M'/\(x.1.k.a S=x.1.k.a x.1.S\/x.1.k.a S=x.1.k.B\/M.next<=x.1.k.a S)/\R x.1 x.2 v s
class Jc {β:Type} (ar:β->List Value):Prop where
 inj:∀{x y:β},ar x=ar y->x=y
instance{β:Type}{ar:β->List Value}{ok:mT->β->Prop}{R:mT->β->Value->Er->Prop} [Jc ar]:Xc (obB tB tC tA tI fA ar ok R) where
 uniq:=fun{x y l M} h k=>by
  obtain⟨h1,h2,_⟩:=h;obtain⟨k1,k2,_⟩:=k;rw[h1] at k1;simp only [List.cons.injEq,pt,Value.pointer.injEq,Option.some.injEq,Addr.mk.injEq,and_true] at k1;obtain⟨e1,e2⟩:=k1;have e3:=dG.uniq h2 k2 e1;have e4:=Jc.inj e2;exact Prod.ext e3 e4
 log:=fun hs h=>⟨h.1,h.2.1.same hs,h.2.2⟩
 res:=fun hn _ hs h=>by
  obtain⟨S,us,ds,s,h1,h2,h3⟩:=h;exact⟨S,us,ds,s,h1.same hs,by rw[<-hn];exact h2,h3⟩
end
end Go.Am
end

noncomputable section
namespace Go.Am
open Go
set_option linter.unusedVariables false
def qU(tC:TypeId)(x:Nat×List Int)(v:Value)(M:aB):Prop:=∃C K c cl,v=pt C 0/\M.get C=some ⟨[i64 ((x.1:Nat):Int),aC K 0 x.2.length c,cl],tC,3,0,true⟩/\M.get K=some ⟨x.2.map i64,3,1,0,true⟩
instance(tC:TypeId):AP (qU tC):=⟨fun{x y v M} ⟨C,K,c,cl,h1,h2,h3⟩ ⟨C',K',c',cl',k1,k2,k3⟩=>by
 rw[h1] at k1;simp only [pt,Value.pointer.injEq,Option.some.injEq,Addr.mk.injEq,and_true] at k1;subst k1;rw[h2] at k2;simp only [Option.some.injEq,aR.mk.injEq,List.cons.injEq,Value.slice.injEq,Addr.mk.injEq,and_true,i64,Value.int.injEq,true_and] at k2;obtain⟨e1,⟨rfl,_⟩,_⟩:=k2;rw[h3] at k3;simp only [Option.some.injEq,aR.mk.injEq,and_true] at k3;have e2:=pD k3;obtain⟨a,b⟩:=x;obtain⟨a',b'⟩:=y;simp only at e1 e2;have e3:a=a':=by omega
 rw[e2,e3],fun hE ⟨C,K,c,cl,h1,h2,h3⟩=>⟨C,K,c,cl,h1,hE _ _ h2,hE _ _ h3⟩⟩
def Mf(tB:TypeId)(x:List A7)(v:Value)(M:aB):Prop:=∃B c0 c1 c2 S c4 c5 c6 c7,v=pt B 0/\M.get B=some ⟨[c0,c1,c2,S,c4,c5,c6,c7],tB,8,0,true⟩/\cL x S M
instance(tB:TypeId):AP (Mf tB):=⟨fun{x y v M} ⟨B,c0,c1,c2,S,c4,c5,c6,c7,h1,h2,h3⟩ ⟨B',d0,d1,d2,S',d4,d5,d6,d7,k1,k2,k3⟩=>by
 rw[h1] at k1;simp only [pt,Value.pointer.injEq,Option.some.injEq,Addr.mk.injEq,and_true] at k1;subst k1;rw[h2] at k2;simp only [Option.some.injEq,aR.mk.injEq,List.cons.injEq,and_true] at k2;obtain⟨_,_,_,rfl,_⟩:=k2;exact AP.uniq (R:=cL) h3 k3,fun hE ⟨B,c0,c1,c2,S,c4,c5,c6,c7,h1,h2,h3⟩=>⟨B,c0,c1,c2,S,c4,c5,c6,c7,h1,hE _ _ h2,AP.ext (R:=cL) hE h3⟩⟩
def Im(tB:TypeId)(x:List E4)(v:Value)(M:aB):Prop:=∃B c0 c1 c2 c3 c4 c5 c6 c7,v=pt B 0/\M.get B=some ⟨[c0,c1,c2,c3,c4,c5,c6,c7],tB,8,0,true⟩/\aQ x c1 M
instance(tB:TypeId):AP (Im tB):=⟨fun{x y v M} ⟨B,c0,c1,c2,c3,c4,c5,c6,c7,h1,h2,h3⟩ ⟨B',d0,d1,d2,d3,d4,d5,d6,d7,k1,k2,k3⟩=>by
 rw[h1] at k1;simp only [pt,Value.pointer.injEq,Option.some.injEq,Addr.mk.injEq,and_true] at k1;subst k1;rw[h2] at k2;simp only [Option.some.injEq,aR.mk.injEq,List.cons.injEq,and_true] at k2;obtain⟨_,rfl,_⟩:=k2;exact AP.uniq (R:=aQ) h3 k3,fun hE ⟨B,c0,c1,c2,c3,c4,c5,c6,c7,h1,h2,h3⟩=>⟨B,c0,c1,c2,c3,c4,c5,c6,c7,h1,hE _ _ h2,AP.ext (R:=aQ) hE h3⟩⟩
def Qv(a:A7)(v:Value)(_:aB):Prop:=v= .agg ⟨dE a⟩
instance:AP Qv:=⟨fun{x y _ _} h k=>by unfold Qv at h k;rw[h] at k;simp only [Value.agg.injEq,Array.mk.injEq] at k;exact Va.inj _ _ k,fun _ h=>h⟩
theorem Pd{n:Nat}{f t m:Int}(hn:n<=60)(hf:0<=f/\f<n)(ht:0<=t/\t<n)(hm:0<=m/\m<5):
  IntKind.wrap .i64 (IntKind.wrap .i64 (IntKind.wrap .i64 (IntKind.wrap .i64 (f*((n:Nat):Int))+t)*5)+m)=bP n f t m:=by
 have h1:0<=f*(n:Int):=Int.mul_nonneg hf.1 (by omega)
 have h2:f*(n:Int)<=60*60:=Int.mul_le_mul (by omega) (by omega) (by omega) (by omega)
 rw[Go.Am.fU (i:=f*((n:Nat):Int)) (by omega) (by omega),Go.Am.fU (i:=f*((n:Nat):Int)+t) (by omega) (by omega),Go.Am.fU (i:=(f*((n:Nat):Int)+t)*5) (by omega) (by omega),Go.Am.fU (by omega) (by omega)]
 rfl
theorem pM{α:Type}{g:α->List Value}{w:Nat}{M:aB}{b o n c:Nat}{l:List α}(h:aG g w M (.slice (some ⟨b,o,none⟩) n c) l)(hl:0<l.length):b<M.next:=by
 rcases h.at_ with⟨_,_,h0⟩|⟨b',o',c',blk,pre,post,h1,h2,_⟩
 ·omega
 ·simp only [Value.slice.injEq,Option.some.injEq,Addr.mk.injEq,and_true] at h1;rw[show b=b' from h1.1.1];exact aB.lt_of_get h2
theorem rS{i:Int}(h0: -9223372036854775808<=i)(h1:i<9223372036854775808):IntKind.wrap .i64 i=i:=by simp [IntKind.wrap,IntKind.bits,IntKind.signed];split<;>omega
def Xo(es:List E4)(i:Int):E4:=match es[i.toNat]? with|some e=>e|none=>⟨0,0,0,0⟩
def sP(arcs:List A7)(i:Int):A7:=match arcs[i.toNat]? with|some a=>a|none=>⟨0,0,0,0,0,0,0⟩
theorem Cp{es:List E4}{i:Int}{e:E4}(h:es[i.toNat]?=some e):Xo es i=e:=by unfold Xo;rw[h]
theorem qW{arcs:List A7}{i:Int}{a:A7}(h:arcs[i.toNat]?=some a):sP arcs i=a:=by unfold sP;rw[h]
theorem Nd{arcs:List A7}{i:Int}{a:A7}(h:arcs[i.toNat]?=some a):eI arcs i=a.c:=by unfold eI;rw[h];rfl
theorem Nf{es:List E4}{i:Int}{e:E4}(h:es[i.toNat]?=some e):gI es i=e.c:=by unfold gI;rw[h];rfl
structure LX(β:Type) where
 C:Nat
 K:Nat
 B:Nat
 n:Nat
 cur:List Int
 y:β
 a:A7
 num:Int
def iV{β:Type}(cost:β->Int->Int)(x:LX β):List Int:=bif eN (cost x.y) (aK x.cur (iX x.n x.a)) x.a.c then x.cur.set (iX x.n x.a) x.num else x.cur
def Qr{β:Type}(tC:TypeId)(fn:FuncId)(cost:β->Int->Int)(pC:β->Value->aB->Prop)(ok:β->Int->Prop):OB (LX β) where
 A:=fun x l M=>l=[pt x.C 0,.agg ⟨dE x.a⟩,i64 x.num]/\M.get x.C=some ⟨[i64 ((x.n:Nat):Int),aC x.K 0 (x.n*x.n*5) (x.n*x.n*5+1),.func (.func fn) #[pt x.B 0] #[]],tC,3,0,true⟩/\M.get x.K=some ⟨x.cur.map i64,3,1,0,true⟩/\pC x.y (pt x.B 0) (bS [(x.K,x.K+1)] M)/\x.C≠x.K/\
  (x.n<=60/\x.cur.length=x.n*x.n*5/\(0<=x.a.f/\x.a.f<x.n)/\(0<=x.a.t/\x.a.t<x.n)/\(0<=x.a.m/\x.a.m<5)/\(aK x.cur (iX x.n x.a)= -1\/ok x.y (aK x.cur (iX x.n x.a))))
 lo:=fun x=>x.K
 own:=fun x id=>id=x.K
 R:=fun x v _ M'=>v= .bool (eN (cost x.y) (aK x.cur (iX x.n x.a)) x.a.c)/\M'.get x.K=some ⟨(iV cost x).map i64,3,1,0,true⟩
instance{β:Type}(tC:TypeId)(fn:FuncId)(cost:β->Int->Int)(pC:β->Value->aB->Prop) [AP pC](ok:β->Int->Prop):Xc (Qr tC fn cost pC ok) where
 uniq:=fun{x y l M} h k=>by
  obtain⟨h1,h2,h3,h4,_⟩:=h;obtain⟨k1,k2,k3,k4,_⟩:=k;obtain⟨C,K,B,n,cur,z,a,num⟩:=x;obtain⟨C',K',B',n',cur',z',a',num'⟩:=y;simp only at h1 h2 h3 h4 k1 k2 k3 k4;rw[h1] at k1;simp only [List.cons.injEq,pt,Value.pointer.injEq,Option.some.injEq,Addr.mk.injEq,and_true,Value.agg.injEq,Array.mk.injEq,i64,Value.int.injEq,true_and] at k1;obtain⟨rfl,ka,rfl⟩:=k1;obtain rfl:a=a':=by cases a;cases a';simp only at ka;obtain⟨rfl,rfl,rfl,rfl,rfl,rfl,rfl⟩:=ka;rfl
  rw[h2] at k2;simp only [Option.some.injEq,aR.mk.injEq,List.cons.injEq,Value.slice.injEq,Addr.mk.injEq,and_true,i64,Value.int.injEq,true_and,Value.func.injEq,pt,Array.mk.injEq,Value.pointer.injEq] at k2;obtain⟨kn,⟨rfl,_⟩,rfl⟩:=k2;obtain rfl:n=n':=by omega
  rw[h3] at k3;simp only [Option.some.injEq,aR.mk.injEq,and_true] at k3;obtain rfl:=pD k3;obtain rfl:=AP.uniq (R:=pC) h4 k4;rfl
 log:=fun{x l M M'} hs h=>by
  obtain⟨h1,h2,h3,h4,h5⟩:=h;exact⟨h1,by rw[<-hs];exact h2,by rw[<-hs];exact h3,AP.ext (R:=pC) (fun id b hg=>by rw[bM] at hg⊢;exact⟨hg.1,by rw[<-hs id];exact hg.2⟩) h4,h5⟩
 res:=fun _ _ hs h=>⟨h.1,by rw[<-hs];exact h.2⟩
end Go.Am
end

noncomputable section
namespace Go.Am
open Go
set_option linter.unusedVariables false
variable{P:Program}
theorem BK.a_ne{k:BK}{S:Value}{id:Nat}(h:id≠k.a S):∀m o c,S≠aC id o m c:=fun m o c e=>h (by rw[e];rfl)
theorem cM.turn{el:TypeId}{w n x:Nat}{M0 M M':aB}{bad:List Nat}{cs:List Value}{S:Value}(h:cM el w M0 bad n cs S M)(hx:x∈bad)(hk:∀id k,M.get id=some k->id≠x->M'.get id=some k):cM el w M0 bad n cs S M':=by
 rcases h with h|⟨b,h1,h2,h3,h4,h5,h6⟩
 ·exact .inl h
 ·exact .inr ⟨b,h1,h2,h3,h4,h5,hk _ _ h6 (fun e=>h5 (e▸hx))⟩
theorem xB{el:TypeId}{w n:Nat}{M0 M:aB}{bad:List Nat}{cs:List Value}{S:Value}{sT xT y bx o c:Nat}{blk:aR}{new:List Value}(h:cM el w M0 bad n cs S M)(hE:Ext M0 M)(hM:aA M)(hb:∀x∈bad,x<M.next)(a1:Ah P el=false)(hs:P.underlying sT=some (.slice el))(hx:P.underlying xT=some (.slice el))(he:elemOf P el=some (w,y,true))(hw:0<w)(hy:y<=1024)(a0:Nat.beq w nY=false)(hn:n<1073741824)
  (hg:M.get bx=some blk) (ht:dJ w (blk.cs.drop o)=some new) (hc:new.all Go.Am.isCell=true) (hl:new.length=w):
  ∃t S' M1,dM P [sT,xT] S (aC bx o 1 c) M=some ((bif t then 1 else 2),.val S',M1)/\Ext M0 M1/\aA M1/\cM el w M0 bad (n+1) (cs++new) S' M1/\(∀id b,M.get id=some b->id∈bad->M1.get id=some b)/\(∀id b,M.get id=some b->(∀m o c,S≠aC id o m c)->M1.get id=some b)/\∀k:BK,M.next<=k.a S':=by
 rcases h with⟨rfl,rfl,rfl⟩|⟨b,rfl,h2,h3,h4,h5,h6⟩
 ·have hm:dS ⟨new,el,w,0,true⟩=false:=by unfold dS;rw[a0];rfl
  obtain⟨b',M1,e1,e2,e3,e4,e5⟩:=bG hM ⟨new,el,w,0,true⟩ hm;refine⟨true,aC b' 0 1 1,M1,?_,hE.trans e4,e5,.inr ⟨b',rfl,Nat.one_pos,by simp [hl],by have:=hE.next;omega,fun hh=>by have:=hb _ hh;omega,by simpa using e3⟩,fun id k g _=>e4.old g,fun id k g _=>e4.old g,fun k=>by show M.next<=b';omega⟩;rw[<-e1,<-e2];exact append_nil hs hx he hw hy hg ht hc hl
 ·have hm:dS ⟨cs++new,el,w,0,true⟩=false:=by unfold dS;rw[a0];rfl
  obtain⟨b',M1,e1,e2,e3,e4,e5,e6⟩:=tT hE h4 hM ⟨cs++new,el,w,0,true⟩ hm;have hlt:=aB.lt_of_get h6;refine⟨false,aC b' 0 (n+1) (n+1),M1,?_,e4,e5,.inr ⟨b',rfl,Nat.succ_pos _,by rw[List.length_append,h3,hl,Nat.succ_mul],by have:=hE.next;omega,fun hh=>by have:=hb _ hh;omega,e3⟩,fun id k g hid=>(e6 id (fun e=>h5 (e▸hid)) (aB.lt_of_get g)).trans g,fun id k g hid=>(e6 id (fun e=>hid n 0 n (by rw[e])) (aB.lt_of_get g)).trans g,fun k=>by show M.next<=b';omega⟩;rw[<-e1,<-e2];exact kE a1 hs hx he hw hy hn hg ht hc hl h6 h3 rfl rfl rfl rfl
theorem aAc{t elem:TypeId}{M:aB}{n:Nat}{z:Value}(hu:P.underlying t=some (.slice elem))(hz:mk1 P elem=some z)(hn:n<137438953472):
  bR P t (i64 ((n:Nat):Int)) (i64 ((n:Nat):Int)) M=some (1,.val (aC M.next 0 n (n+1)),M.alloc ⟨List.replicate n z,elem,1,0,true⟩):=by
 unfold mk1 at hz
 cases hi:P.info? elem with
 |none=>rw[hi] at hz;cases hz
 |some e=>
  rw[hi] at hz
  simp only at hz
  cases a0:e.zero with
  |none=>rw[a0] at hz;cases hz
  |some z0=>
   rw[a0] at hz
   simp only at hz
   cases hq:(flat z0&&isCell z0&&Nat.beq e.size 1&&Nat.ble e.bytes 1024)<;>rw[hq] at hz
   ·cases hz
   ·cases hz;simp only [Bool.and_eq_true] at hq;obtain⟨⟨⟨q1,q2⟩,q3⟩,q4⟩:=hq;have h1:e.size=1:=xBa q3;have hc:=cI q2;unfold bR;have e1:decide ((0:Int)<=((n:Nat):Int))=true:=xAb (by omega);have e2:decide (((n:Nat):Int)<=((n:Nat):Int))=true:=xAb (Int.le_refl _);have e3:decide (((n:Nat):Int)<2^37)=true:=xAb (by omega);have e4:((n:Nat):Int).toNat=n:=rfl;have e5:decide (((n:Nat):Int)=((n:Nat):Int))=true:=xAb rfl;simp only [hu,hi,a0,q1,hc,List.all_cons,List.all_nil,q2,h1,List.length_cons,List.length_nil,e1,e2,e3,e4,e5,Lm,made,nT];have a1:e.bytes.ble 1024=true:=q4;rw[a1];rfl
theorem Dn{t elem:TypeId}{M:aB}{n:Nat}{z:Value}(hM:aA M)(hu:P.underlying t=some (.slice elem))(hz:mk1 P elem=some z)(hn:n<137438953472):
  ∃b M1,M.next=b/\(∀H,bR P t (i64 ((n:Nat):Int)) (i64 ((n:Nat):Int)) (aB.mk M.blks M.next H M.log)=some (1,.val (aC b 0 n (n+1)),aB.mk M1.blks M1.next H M1.log))/\M1.get b=some ⟨List.replicate n z,elem,1,0,true⟩/\Ext M M1/\aA M1/\M1.log=M.log:=
 ⟨_,M.alloc ⟨List.replicate n z,elem,1,0,true⟩,rfl,fun H=>aAc (M:=aB.mk M.blks M.next H M.log) hu hz hn,mW hM _ rfl,Ext.alloc M _,hM.ext (Ext.alloc M _),rfl⟩
theorem Hv{x y:Nat}(h:x≠y):¬bD [(y,y+1)] x=true:=by simp only [bJ,gL,and_true];omega
theorem Nw{b id:Nat}(h:¬(b<=id/\id<b+1)):id≠b:=fun e=>h (by omega)
theorem nd7i{a b c d e f g:Nat}(a0:a≠b)(a1:a≠c)(a2:a≠d)(a3:a≠e)(a4:a≠f)(a5:a≠g)(a6:b≠c)(a7:b≠d)(a8:b≠e)(a9:b≠f)(b0:b≠g)(b1:c≠d)(b2:c≠e)(b3:c≠f)(b4:c≠g)(b5:d≠e)(b6:d≠f)(b7:d≠g)(b8:e≠f)(b9:e≠g)(c0:f≠g):[a,b,c,d,e,f,g].Nodup:=by simp only [List.nodup_cons,List.mem_cons,List.not_mem_nil,or_false,not_or,List.nodup_nil,and_true,not_false_eq_true];exact⟨⟨a0,a1,a2,a3,a4,a5⟩,⟨a6,a7,a8,a9,b0⟩,⟨b1,b2,b3,b4⟩,⟨b5,b6,b7⟩,⟨b8,b9⟩,c0⟩
theorem Me{a b c d e f g:Nat}(h:[a,b,c,d,e,f,g].Nodup):a≠b/\a≠c/\a≠d/\a≠e/\a≠f/\a≠g/\b≠c/\b≠d/\b≠e/\b≠f/\b≠g/\c≠d/\c≠e/\c≠f/\c≠g/\d≠e/\d≠f/\d≠g/\e≠f/\e≠g/\f≠g:=by refine⟨?_,?_,?_,?_,?_,?_,?_,?_,?_,?_,?_,?_,?_,?_,?_,?_,?_,?_,?_,?_,?_⟩<;>(intro hh;subst hh;simp at h)
theorem Jr{tA K:Nat}{M0 M:aB}{bad:List Nat}{arcs:List A7}{S:Value}(h:cM tA 7 M0 bad arcs.length ((arcs.map dE).flatten) S M)(hx:K∈bad)(hl:arcs.length<=9223372036854775807):cL arcs S (bS [(K,K+1)] M):=by
 rcases h with⟨rfl,h0,_⟩|⟨b,rfl,h2,h3,h4,h5,h6⟩
 ·rw[List.eq_nil_of_length_eq_zero h0];exact aG.nil none
 ·exact aG.of_blk' (bM.2 ⟨by simp only [bJ,gL,and_true];intro hh;exact h5 (by rw[show b=K by omega];exact hx),h6⟩) rfl rfl (fun _ _=>rfl) hl
theorem dQ.form{tA lo:Nat}{bad:List Nat}{arcs:List A7}{S:Value}{M:aB}(h:dQ tA lo bad arcs S M):∃a c,S= .slice a arcs.length c/\(a.isNone=true->arcs.length=0/\c=0):=by
 rcases h with⟨rfl,rfl⟩|⟨b,rfl,_⟩
 ·exact⟨none,0,rfl,fun _=>⟨rfl,rfl⟩⟩
 ·exact⟨_,_,rfl,fun h=>by cases h⟩
section
variable{tB tC tA tI:TypeId}{fA:FuncId}
theorem dG.next{x:mT}{M M':aB}(h:dG tB tC tA tI fA x M)(hk:∀id b,M.get id=some b->¬x.own id->M'.get id=some b){S:Value}{s:Er}{us ds:List Value}
  (hS:x.k.a S=x.k.a x.S\/x.k.a S=x.k.B\/M.next<=x.k.a S)
  (gB:M'.get x.k.B=some ⟨[i64 ((x.n:Nat):Int),x.ev,aC x.k.R 0 x.n (x.n+1),S,aC x.k.U 0 x.n (x.n+1),aC x.k.D 0 x.n (x.n+1),pt x.k.C 0,aC x.k.G 0 x.n (x.n+1)],tB,8,0,true⟩)
  (gC:M'.get x.k.C=some ⟨[i64 ((x.n:Nat):Int),aC x.k.K 0 (x.n*x.n*5) (x.n*x.n*5+1),.func (.func fA) #[pt x.k.B 0] #[]],tC,3,0,true⟩)
  (gK:M'.get x.k.K=some ⟨s.b.cur.map i64,3,1,0,true⟩) (gG:M'.get x.k.G=some ⟨s.gone.map .bool,4,1,0,true⟩) (gR:M'.get x.k.R=some ⟨s.rank.map i64,3,1,0,true⟩)
  (gU:M'.get x.k.U=some ⟨us,tI,1,0,true⟩) (gD:M'.get x.k.D=some ⟨ds,tI,1,0,true⟩) (acc:dQ tA x.k.G x.k.ids s.b.arcs S M')
  (a1:dV s.up us (bS (x.k.hideS S) M')) (a0:dV s.down ds (bS (x.k.hideS S) M')):dG tB tC tA tI fA {x with S:=S,s:=s,us:=us,ds:=ds} M':=
 ⟨gB,gC,gK,gG,gR,gU,gD,acc,h.lo,h.nd,AP.ext (R:=aQ) (dY (x:=x) hk hS) h.es,a1,a0⟩
theorem dG.old{x:mT}{M M':aB}(h:dG tB tC tA tI fA x M)(e:∀id b,M.get id=some b->M'.get id=some b):dG tB tC tA tI fA x M':=by
 have e2:∀id b,(bS (x.k.hideS x.S) M).get id=some b->(bS (x.k.hideS x.S) M').get id=some b:=fun id b hg=>by rw[jK] at hg⊢;exact⟨hg.1,e _ _ hg.2⟩
 exact⟨e _ _ h.gB,e _ _ h.gC,e _ _ h.gK,e _ _ h.gG,e _ _ h.gR,e _ _ h.gU,e _ _ h.gD,h.acc.same e,h.lo,h.nd,AP.ext (R:=aQ) e2 h.es,h.up.ext e2,h.down.ext e2⟩
theorem dG.gGlt{x:mT}{M:aB}(h:dG tB tC tA tI fA x M):x.k.G<M.next:=aB.lt_of_get h.gG
theorem dG.own_lt{x:mT}{M:aB}(h:dG tB tC tA tI fA x M):∀id,(id=x.k.a x.S\/id∈x.k.ids)->id<M.next:=by
 have hi:∀id∈x.k.ids,id<M.next:=by
  intro id hid;simp only [BK.ids,List.mem_cons,List.not_mem_nil,or_false] at hid;rcases hid with rfl|rfl|rfl|rfl|rfl|rfl|rfl
  ·exact aB.lt_of_get h.gB
  ·exact aB.lt_of_get h.gC
  ·exact aB.lt_of_get h.gK
  ·exact aB.lt_of_get h.gG
  ·exact aB.lt_of_get h.gR
  ·exact aB.lt_of_get h.gU
  ·exact aB.lt_of_get h.gD
 rintro id (rfl|hid)
 ·rcases h.acc with⟨h1,_⟩|⟨b,h1,_,_,_,h2⟩
  ·rw[h1];exact aB.lt_of_get h.gB
  ·rw[h1];exact aB.lt_of_get h2
 ·exact hi id hid
theorem qH{β:Type}{R:β->Value->aB->Prop} [AP R]{k:BK}{S:Value}{y:β}{v:Value}{M:aB}{n0 N:Nat}(a0:∀id,(id=k.a S\/id∈k.ids)->id<n0)(hn:n0<=N)(h:R y v (bS [(0,N)] M)):R y v (bS (k.hideS S) M):=AP.ext (fun id b hg=>by
 rw[bM] at hg;have h1:=hg.1;simp only [bJ,gL,and_true] at h1;rw[jK];exact⟨⟨fun e=>by have:=a0 id (.inl e);omega,fun e=>by have:=a0 id (.inr e);omega,by have:=a0 k.G (.inr (by simp [BK.ids]));omega⟩,hg.2⟩) h
theorem Vs{β:Type}{R:β->Value->aB->Prop} [AP R]{y:β}{v:Value}{M M':aB}{H:List (Nat×Nat)}{x:Nat}(h:R y v (bS H M))(hx:M.next<=x)(hE:Ext M M'):R y v (bS ((x,x+1)::H) M'):=AP.ext (fun id b hg=>by
 rw[bM] at hg⊢;have hl:=aB.lt_of_get hg.2;exact⟨by rw[bJ];exact⟨by omega,hg.1⟩,hE.old hg.2⟩) h
theorem dV.none{n:Nat}{M:aB}:dV (List.replicate n []) (List.replicate n dP) M:=by
 refine⟨by simp,fun u r hr=>?_⟩;rw[List.getElem?_replicate] at hr;split at hr
 ·rename_i hu;obtain rfl:=Option.some.inj hr;exact⟨dP,by rw[List.getElem?_replicate,if_pos hu],aG.nil Option.none⟩
 ·cases hr
theorem dV.set{rs:List (List Int)}{us:List Value}{M:aB}{v:Nat}{r:List Int}{x:Value}(h:dV rs us M)(hx:aH r x M):dV (rs.set v r) (us.set v x) M:=by
 refine⟨by simpa using h.1,fun u q hq=>?_⟩;rw[List.getElem?_set] at hq⊢;by_cases e:v=u
 ·rw[if_pos e] at hq⊢;by_cases hl:v<rs.length
  ·rw[if_pos hl] at hq;obtain rfl:=Option.some.inj hq;exact⟨x,by rw[if_pos (by rw[h.1];exact hl)],hx⟩
  ·rw[if_neg hl] at hq;cases hq
 ·rw[if_neg e] at hq⊢;exact h.2 u q hq
theorem lZ{l:List Value}{v:Nat}{x:Value}(h:v<l.length):splice l (0+(((v:Nat):Int):Int).toNat*1) [x]=l.set v x:=by rw[Nat.zero_add,Nat.mul_one,Int.toNat_natCast,jF _ _ _ h]
theorem eW{t:TypeId}{a:Addr}{v:Value}{M M1:aB}(h:eB P t a v M=some M1):M1.next=M.next:=by
 unfold eB at h;split at h
 ·rename_i b i _ _;cases hc:(Nat.beq v.cells.toList.length i.size&&v.cells.toList.all isCell&&Nat.ble b.wf a.off&&Nat.ble (a.off+v.cells.toList.length) b.cs.length)<;>rw[hc] at h
  ·cases h
  ·cases h;rfl
 ·cases h
theorem Ox{m:List Bool}{v:Nat}(h:v<m.length):splice (m.map Value.bool) (0+(((v:Nat):Int):Int).toNat*1) [.bool true]=(m.set v true).map Value.bool:=by rw[lZ (by simpa using h),List.map_set]
theorem Oz{m:List Int}{v:Nat}{x:Int}(h:v<m.length):splice (m.map i64) (0+(((v:Nat):Int):Int).toNat*1) [i64 x]=(m.set v x).map i64:=by rw[lZ (by simpa using h),List.map_set]
structure lL(k:BK)(S0:Value)(Ms:aB)(S:Value)(M:aB):Prop where
 keep:∀id b,Ms.get id=some b->¬(id=k.a S0\/id∈k.ids)->M.get id=some b
 a:k.a S=k.a S0\/k.a S=k.B\/Ms.next<=k.a S
 next:Ms.next<=M.next
theorem lL.refl(k:BK)(S:Value)(M:aB):lL k S M S M:=⟨fun _ _ h _=>h,.inl rfl,Nat.le_refl _⟩
theorem lL.step{k:BK}{S0 S S':Value}{Ms M M':aB}(h:lL k S0 Ms S M)(hk:∀id b,M.get id=some b->¬(id=k.a S\/id∈k.ids)->M'.get id=some b)(hS:k.a S'=k.a S\/k.a S'=k.B\/M.next<=k.a S')(hn:M.next<=M'.next):lL k S0 Ms S' M':=by
 refine⟨fun id b hg ho=>hk id b (h.keep id b hg ho) (fun hh=>?_),?_,Nat.le_trans h.next hn⟩
 ·rcases hh with hh|hh
  ·have hlt:=aB.lt_of_get hg;rcases h.a with e|e|e
   ·exact ho (.inl (hh.trans e))
   ·exact ho (.inr (by rw[hh,e];simp [BK.ids]))
   ·omega
  ·exact ho (.inr hh)
 ·rcases hS with e|e|e
  ·rw[e];exact h.a
  ·exact .inr (.inl e)
  ·exact .inr (.inr (Nat.le_trans h.next e))
theorem lL.hids{k:BK}{S0 S:Value}{Ms M:aB}(h:lL k S0 Ms S M):∀id b,(bS (k.hideS S0) Ms).get id=some b->(bS (k.hideS S) M).get id=some b:=fun id b hg=>by
 rw[jK] at hg⊢;have hlt:=aB.lt_of_get hg.2;refine⟨⟨?_,hg.1.2⟩,h.keep id b hg.2 (fun hh=>hh.elim hg.1.1 hg.1.2.1)⟩;rcases h.a with e|e|e
 ·rw[e];exact hg.1.1
 ·rw[e];exact fun h0=>hg.1.2.1 (by rw[h0];simp [BK.ids])
 ·omega
end
end Go.Am
end

noncomputable section
namespace Go.Am
open Go
set_option linter.unusedVariables false
theorem Cw:∀{l l':List E4},(l.map cJ).flatten=(l'.map cJ).flatten->l=l'
 | [],[],_=>rfl
 | [],_::_,h=>by simp [cJ] at h
 |_::_,[],h=>by simp [cJ] at h
 |x::l,y::l',h=>by
  simp only [List.map_cons,List.flatten_cons] at h;have h1:=List.append_inj h (by simp [cJ]);rw[Va.inj _ _ h1.1,Cw h1.2]
section
variable(tB tC tA tI:TypeId)
structure jG(x:mT)(M:aB):Prop where
 gB:M.get x.k.B=some ⟨[i64 ((x.n:Nat):Int),x.ev,aC x.k.R 0 x.n x.n,x.S,aC x.k.U 0 x.n (x.n+1),aC x.k.D 0 x.n (x.n+1),aC x.k.K 0 (x.n*x.n*5) (x.n*x.n*5+1),aC x.k.G 0 x.n (x.n+1)],tB,8,0,true⟩
 gC:M.get x.k.C=some ⟨(x.es.map cJ).flatten,tC,4,0,true⟩
 gK:M.get x.k.K=some ⟨(x.s.b.cur.map (·+1)).map i64,3,1,0,true⟩
 gG:M.get x.k.G=some ⟨x.s.gone.map .bool,4,1,0,true⟩
 gR:M.get x.k.R=some ⟨x.s.rank.map i64,3,1,0,true⟩
 gU:M.get x.k.U=some ⟨x.us,tI,1,0,true⟩
 gD:M.get x.k.D=some ⟨x.ds,tI,1,0,true⟩
 acc:dQ tA x.k.K x.k.ids x.s.b.arcs x.S M
 lo:∀i∈x.k.ids,x.k.K<=i
 nd:x.k.ids.Nodup
 es:∃c,x.ev=aC x.k.C 0 x.es.length c
 up:dV x.s.up x.us (bS (x.k.hideS x.S) M)
 down:dV x.s.down x.ds (bS (x.k.hideS x.S) M)
end
section
variable{tB tC tA tI:TypeId}
theorem jG.same{x:mT}{M M':aB}(hs:zW M M')(h:jG tB tC tA tI x M):jG tB tC tA tI x M':=by
 have e:∀id b,M.get id=some b->M'.get id=some b:=fun id b hg=>by rw[<-hs id];exact hg
 exact⟨e _ _ h.gB,e _ _ h.gC,e _ _ h.gK,e _ _ h.gG,e _ _ h.gR,e _ _ h.gU,e _ _ h.gD,h.acc.same e,h.lo,h.nd,h.es,h.up.ext hs.hid,h.down.ext hs.hid⟩
theorem jG.uniq{x y:mT}{M:aB}(h:jG tB tC tA tI x M)(k:jG tB tC tA tI y M)(he:x.k.B=y.k.B):x=y:=by
 obtain⟨⟨B,C,K,G,R,U,D⟩,n,es,ev,S,⟨⟨arcs,cur⟩,gone,rank,up,down⟩,us,ds⟩:=x;obtain⟨⟨B',C',K',G',R',U',D'⟩,n',es',ev',S',⟨⟨arcs',cur'⟩,a0,rank',up',down'⟩,us',ds'⟩:=y;simp only at he;subst he;have e1:=h.gB;have e2:=k.gB;simp only at e1 e2;rw[e1] at e2;simp only [Option.some.injEq,aR.mk.injEq,List.cons.injEq,Value.slice.injEq,Addr.mk.injEq,and_true,i64,Value.int.injEq,true_and,pt,Value.pointer.injEq] at e2;obtain⟨hn,rfl,⟨rfl,_⟩,rfl,⟨rfl,_⟩,⟨rfl,_⟩,⟨rfl,_⟩,rfl,_⟩:=e2;obtain rfl:n=n':=by omega
 obtain⟨c,e1⟩:=h.es;obtain⟨c',e2⟩:=k.es;simp only at e1 e2;rw[e1] at e2;simp only [Value.slice.injEq,Option.some.injEq,Addr.mk.injEq,and_true] at e2;obtain⟨rfl,_⟩:=e2;have e1:=h.gC;have e2:=k.gC;simp only at e1 e2;rw[e1] at e2;simp only [Option.some.injEq,aR.mk.injEq,and_true] at e2;obtain rfl:=Cw e2;have e1:=h.gK;have e2:=k.gK;simp only at e1 e2;rw[e1] at e2;simp only [Option.some.injEq,aR.mk.injEq,and_true] at e2;obtain rfl:=(List.map_inj_right (fun x y h=>by simpa using h)).1 (pD e2);have e1:=h.gG;have e2:=k.gG;simp only at e1 e2;rw[e1] at e2;simp only [Option.some.injEq,aR.mk.injEq,and_true] at e2;obtain rfl:gone=a0:=(List.map_inj_right (fun x y h=>by simpa using h)).1 e2;have e1:=h.gR;have e2:=k.gR;simp only at e1 e2;rw[e1] at e2;simp only [Option.some.injEq,aR.mk.injEq,and_true] at e2;obtain rfl:=pD e2;have e1:=h.gU;have e2:=k.gU;simp only at e1 e2;rw[e1] at e2;simp only [Option.some.injEq,aR.mk.injEq,and_true] at e2;obtain rfl:=e2;have e1:=h.gD;have e2:=k.gD;simp only at e1 e2;rw[e1] at e2;simp only [Option.some.injEq,aR.mk.injEq,and_true] at e2;obtain rfl:=e2;obtain rfl:=dQ.uniq h.acc k.acc;obtain rfl:=h.up.uniq k.up;obtain rfl:=h.down.uniq k.down;rfl
def obW(tB tC tA tI:TypeId){β:Type}(ar:β->List Value)(ok:mT->β->Prop)(R:mT->β->Value->Er->Prop):OB (mT×β) where
 A:=fun x l M=>l=pt x.1.k.B 0::ar x.2/\jG tB tC tA tI x.1 M/\ok x.1 x.2
 lo:=fun x=>x.1.k.K
 own:=fun x id=>x.1.own id
 R:=fun x v M M'=>∃S us ds s,jG tB tC tA tI {x.1 with S:=S,us:=us,ds:=ds,s:=s} M'/\(x.1.k.a S=x.1.k.a x.1.S\/x.1.k.a S=x.1.k.B\/M.next<=x.1.k.a S)/\R x.1 x.2 v s
instance{β:Type}{ar:β->List Value}{ok:mT->β->Prop}{R:mT->β->Value->Er->Prop} [Jc ar]:Xc (obW tB tC tA tI ar ok R) where
 uniq:=fun{x y l M} h k=>by
  obtain⟨h1,h2,_⟩:=h;obtain⟨k1,k2,_⟩:=k;rw[h1] at k1;simp only [List.cons.injEq,pt,Value.pointer.injEq,Option.some.injEq,Addr.mk.injEq,and_true] at k1;obtain⟨e1,e2⟩:=k1;have e3:=jG.uniq h2 k2 e1;have e4:=Jc.inj e2;exact Prod.ext e3 e4
 log:=fun hs h=>⟨h.1,h.2.1.same hs,h.2.2⟩
 res:=fun hn _ hs h=>by
  obtain⟨S,us,ds,s,h1,h2,h3⟩:=h;exact⟨S,us,ds,s,h1.same hs,by rw[<-hn];exact h2,h3⟩
theorem jG.next{x:mT}{M M':aB}(h:jG tB tC tA tI x M)(hk:∀id b,M.get id=some b->¬x.own id->M'.get id=some b){S:Value}{s:Er}{us ds:List Value}
  (hS:x.k.a S=x.k.a x.S\/x.k.a S=x.k.B\/M.next<=x.k.a S)
  (gB:M'.get x.k.B=some ⟨[i64 ((x.n:Nat):Int),x.ev,aC x.k.R 0 x.n x.n,S,aC x.k.U 0 x.n (x.n+1),aC x.k.D 0 x.n (x.n+1),aC x.k.K 0 (x.n*x.n*5) (x.n*x.n*5+1),aC x.k.G 0 x.n (x.n+1)],tB,8,0,true⟩)
  (gC:M'.get x.k.C=some ⟨(x.es.map cJ).flatten,tC,4,0,true⟩)
  (gK:M'.get x.k.K=some ⟨(s.b.cur.map (·+1)).map i64,3,1,0,true⟩) (gG:M'.get x.k.G=some ⟨s.gone.map .bool,4,1,0,true⟩) (gR:M'.get x.k.R=some ⟨s.rank.map i64,3,1,0,true⟩)
  (gU:M'.get x.k.U=some ⟨us,tI,1,0,true⟩) (gD:M'.get x.k.D=some ⟨ds,tI,1,0,true⟩) (acc:dQ tA x.k.K x.k.ids s.b.arcs S M')
  (a1:dV s.up us (bS (x.k.hideS S) M')) (a0:dV s.down ds (bS (x.k.hideS S) M')):jG tB tC tA tI {x with S:=S,s:=s,us:=us,ds:=ds} M':=
 ⟨gB,gC,gK,gG,gR,gU,gD,acc,h.lo,h.nd,h.es,a1,a0⟩
theorem jG.old{x:mT}{M M':aB}(h:jG tB tC tA tI x M)(e:∀id b,M.get id=some b->M'.get id=some b):jG tB tC tA tI x M':=by
 have e2:∀id b,(bS (x.k.hideS x.S) M).get id=some b->(bS (x.k.hideS x.S) M').get id=some b:=fun id b hg=>by rw[jK] at hg⊢;exact⟨hg.1,e _ _ hg.2⟩
 exact⟨e _ _ h.gB,e _ _ h.gC,e _ _ h.gK,e _ _ h.gG,e _ _ h.gR,e _ _ h.gU,e _ _ h.gD,h.acc.same e,h.lo,h.nd,h.es,h.up.ext e2,h.down.ext e2⟩
theorem jG.gKlt{x:mT}{M:aB}(h:jG tB tC tA tI x M):x.k.K<M.next:=aB.lt_of_get h.gK
theorem jG.own_lt{x:mT}{M:aB}(h:jG tB tC tA tI x M):∀id,(id=x.k.a x.S\/id∈x.k.ids)->id<M.next:=by
 have hi:∀id∈x.k.ids,id<M.next:=by
  intro id hid;simp only [BK.ids,List.mem_cons,List.not_mem_nil,or_false] at hid;rcases hid with rfl|rfl|rfl|rfl|rfl|rfl|rfl
  ·exact aB.lt_of_get h.gB
  ·exact aB.lt_of_get h.gC
  ·exact aB.lt_of_get h.gK
  ·exact aB.lt_of_get h.gG
  ·exact aB.lt_of_get h.gR
  ·exact aB.lt_of_get h.gU
  ·exact aB.lt_of_get h.gD
 rintro id (rfl|hid)
 ·rcases h.acc with⟨h1,_⟩|⟨b,h1,_,_,_,h2⟩
  ·rw[h1];exact aB.lt_of_get h.gB
  ·rw[h1];exact aB.lt_of_get h2
 ·exact hi id hid
end
end Go.Am
end

noncomputable section
namespace Go.Am
open Go
set_option linter.unusedVariables false
variable{P:Program}
theorem Mj{el:TypeId}{w b:Nat}{M0 M:aB}{sT xT:TypeId}{α:Type}{g:α->List Value}{l:List α}{m c y:Nat}{a:Option Addr}(hE:Ext M0 M)(hM:aA M)(hb:M0.next<=b)(hg:M.get b=some ⟨[],el,w,0,true⟩)(hkt:Ah P el=false)(hs:P.underlying sT=some (.slice el))(hx:P.underlying xT=some (.slice el))(he:elemOf P el=some (w,y,true))(hw:0<w)(hy:y<=1024)(a3:Nat.beq w nY=false)
  (hr:aG g w M (.slice a m c) l) (hn:l.length<1073741824) (hc:∀r∈l,(g r).all isCell=true):
  ∃C c' M1,dM P [sT,xT] (aC b 0 0 1) (.slice a m c) M=some (1,.val (aC C 0 l.length c'),M1)/\Ext M0 M1/\aA M1/\M0.next<=C/\M1.get C=some ⟨(l.map g).flatten,el,w,0,true⟩/\M1.log=M.log:=by
 unfold elemOf at he
 cases hi:P.info? el with
 |none=>rw[hi] at he;cases he
 |some e=>
  rw[hi] at he
  simp only [Option.map_some,Option.some.injEq] at he
  have a2:=rM (n:=0+l.length) he hw hy (by omega)
  simp only [Prod.mk.injEq] at he
  obtain⟨rfl,rfl,_⟩:=he
  have a5:=hr.len_eq
  subst a5
  have a6:∀r∈l.map g,r.length=e.size:=fun r hr'=>by obtain⟨y,q,rfl⟩:=List.mem_map.1 hr';exact hr.wide y q
  have a0:(l.map g).flatten.length=l.length*e.size:=by rw[yA a6,List.length_map]
  have a1:(l.map g).flatten.all isCell=true:=by
   rw[List.all_eq_true];intro x hx;obtain⟨r,k1,k2⟩:=List.mem_flatten.1 hx;obtain⟨y,q,rfl⟩:=List.mem_map.1 k1;exact List.all_eq_true.1 (hc y q) x k2
  have hf:iS M e.size l.length (.slice a l.length c)=some (l.map g).flatten:=by
   by_cases h0:l.length=0
   ·have hl:l=[]:=List.eq_nil_of_length_eq_zero h0;subst hl;cases a with
    |none=>rfl
    |some a=>
     simp only [iS]
     cases M.get a.block with
     |none=>rfl
     |some b=>simp [range,dJ]
   ·rcases hr.at_ with⟨_,_,hh⟩|⟨b',o',c',blk,pre,post,h1,h2,h3,h4,_⟩
    ·omega
    ·simp only [Value.slice.injEq] at h1;obtain⟨rfl,_,rfl⟩:=h1;have hf:dJ (l.length*e.size) (blk.cs.drop o')=some (l.map g).flatten:=by
      rw[h3,<-h4,List.append_assoc,List.drop_left,<-a0];exact rQ _ _
     simp only [iS,h2,range,hf]
  have hm:∀cs':List Value,dS ⟨cs',el,e.size,0,true⟩=false:=fun cs'=>by unfold dS;rw[a3];rfl
  have a4:l.length≠0->l.length.beq 0=false:=fun h0=>by
   cases hb:l.length.beq 0
   ·rfl
   ·exact absurd (xBa hb) h0
  by_cases h0:l.length=0
  ·have hl:l=[]:=List.eq_nil_of_length_eq_zero h0;subst hl;refine⟨b,1,M,?_,hE,hM,hb,hg,rfl⟩;unfold dM;simp only [List.length_nil] at a2 hf⊢;simp only [hs,hx,hi,nX,kL,hf,hg,range,a2];simp [dJ]
  ·obtain⟨b',M1,e1,e2,e3,e4,e5⟩:=bG hM ⟨(l.map g).flatten,el,e.size,0,true⟩ (hm _);refine⟨b',l.length,M1,?_,hE.trans e4,e5,by have:=hE.next;omega,e3,by rw[<-e2];rfl⟩;rw[<-e1,<-e2];have h5:=a4 h0;have h6:Nat.ble 1 (0+l.length)=true:=Nat.ble_eq_true_of_le (by omega);unfold dM;simp only [hs,hx,hi,nX,kL,hf,hg,range,a2,a1,a0,Nat.zero_mul,dJ,List.nil_append,h5,h6];simp [made,nT,Nat.beq_refl];rfl
end Go.Am
end
noncomputable section
namespace Go.Am
open Go
theorem Ol{P:Program}{t:TypeId}{a:Addr}{v:Value}{M M1:aB}{H:List (Nat×Nat)}(h:eB P t a v M=some M1)(hn:¬bD H a.block=true):eB P t a v (bS H M)=some (bS H M1):=by
 unfold eB at h⊢;cases hg:M.get a.block with
 |none=>rw[hg] at h;cases h
 |some b=>
  have a0:(bS H M).get a.block=some b:=bM.2 ⟨hn,hg⟩
  rw[hg] at h
  rw[a0]
  cases hi:P.info? t with
  |none=>rw[hi] at h;cases h
  |some i=>
   rw[hi] at h
   simp only at h⊢
   cases hq:(Nat.beq v.cells.toList.length i.size&&v.cells.toList.all isCell&&Nat.ble b.wf a.off&&Nat.ble (a.off+v.cells.toList.length) b.cs.length)<;>rw[hq] at h
   ·cases h
   ·cases h;rfl
end Go.Am
end

noncomputable section
namespace Go.Am
open Go
set_option linter.unusedVariables false
theorem pG{l:List E4}{d i:Nat}{v:Int}:v∈iM l d i↔ ∃k,k<i/\v=((k:Nat):Int)/\rF l ((k:Nat):Int)=false/\mK l ((k:Nat):Int)=d:=by
 unfold iM;simp only [List.mem_filterMap,List.mem_range];constructor
 ·rintro⟨k,h1,h2⟩;split at h2
  ·rename_i h;exact⟨k,h1,(Option.some.inj h2).symm,h.1,h.2⟩
  ·cases h2
 ·rintro⟨k,h1,h2,h3,h4⟩;exact⟨k,h1,by rw[if_pos ⟨h3,h4⟩,h2]⟩
theorem Nu{n:Nat}{l:List E4}(h:fF ((n:Nat):Int) l=true){v:Int}:v∈dA n l↔ ∃k,k<n/\v=((k:Nat):Int)/\rF l ((k:Nat):Int)=false:=by
 rw[Dt h];unfold wR kT;simp only [List.mem_flatten,List.mem_map,List.mem_range];constructor
 ·rintro⟨_,⟨d,_,rfl⟩,hv⟩;obtain⟨k,h1,h2,h3,_⟩:=pG.1 hv;exact⟨k,h1,h2,h3⟩
 ·rintro⟨k,h1,h2,h3⟩;refine⟨_,⟨mK l ((k:Nat):Int),?_,rfl⟩,pG.2 ⟨k,h1,h2,h3,rfl⟩⟩;have:=Gr l ((k:Nat):Int);omega
theorem iC{n:Nat}{l:List E4}(h:fF ((n:Nat):Int) l=true):∀v∈dA n l,0<=v/\v<n:=fun v hv=>by
 obtain⟨k,h1,rfl,_⟩:=(Nu h).1 hv;omega
theorem Iw(l:List E4)(d i:Nat):(iM l d i).Nodup:=by
 induction i with
 |zero=>simp [iM]
 |succ i ih=>
  rw[Aq]
  refine List.nodup_append.2 ⟨ih,by split<;>simp,fun a ha b hb=>?_⟩
  obtain⟨k,h1,rfl,_⟩:=pG.1 ha
  split at hb
  ·rw[List.mem_singleton.1 hb];omega
  ·cases hb
theorem Fh(l:List E4)(n d:Nat):(kT l n d).Nodup:=by
 induction d with
 |zero=>simp [kT]
 |succ d ih=>
  rw[oH]
  refine List.nodup_append.2 ⟨ih,Iw l d n,fun a ha b hb=>?_⟩
  obtain⟨k,h1,rfl,_,h4⟩:=pG.1 hb
  unfold kT at ha
  simp only [List.mem_flatten,List.mem_map,List.mem_range] at ha
  obtain⟨_,⟨d',hd',rfl⟩,ha⟩:=ha
  obtain⟨k',_,rfl,_,a0⟩:=pG.1 ha
  intro e
  rw[e] at a0
  omega
theorem Il{n:Nat}{l:List E4}(h:fF ((n:Nat):Int) l=true):(dA n l).Nodup:=by rw[Dt h];exact Fh l n _
theorem Qq:∀{n:Nat} {l:List Int},l.Nodup->(∀v∈l,0<=v/\v<((n:Nat):Int))->l.length<=n:=by
 intro n;induction n with
 |zero=>intro l _ h2;cases l with|nil=>simp|cons a l=>have:=h2 a (List.mem_cons_self ..);omega
 |succ n ih=>
  intro l h1 h2
  have h3:=ih (h1.erase ((n:Nat):Int)) (fun v hv=>by
   have hm:=(h1.mem_erase_iff).1 hv;have:=h2 v hm.2;have:=hm.1;omega)
  have:=List.length_erase (a:=((n:Nat):Int)) (l:=l)
  split at this<;>omega
theorem mZ{n:Nat}{l:List E4}(h:fF ((n:Nat):Int) l=true):(dA n l).length<=n:=Qq (Il h) (iC h)
theorem Pe{i k:Nat}(h:i<=k):(2:Int)^i<=2^k:=by
 have h1:=Nat.pow_le_pow_right (n:=2) (by omega) h;have e:∀j:Nat,(((2:Nat)^j:Nat):Int)=(2:Int)^j:=fun j=>by push_cast;rfl
 rw[<-e i,<-e k];exact Int.ofNat_le.2 h1
theorem lL.trans{k:BK}{S0 S1 S2:Value}{Ms M M':aB}(h:lL k S0 Ms S1 M)(h2:lL k S1 M S2 M'):lL k S0 Ms S2 M':=h.step h2.keep h2.a h2.next
theorem Ext.over{b:Nat}{M0 M M':aB}(X:Ext M0 M)(hb:M0.next<=b)(a0:b<=M.next)(h:Ext (Go.Am.cut b M) M'):Ext M0 M':=by
 obtain⟨L,k1,k2⟩:=h.log;obtain⟨L1,j1,j2⟩:=X.log;refine⟨Nat.le_trans hb h.next,h.hide.trans X.hide,fun id hid=>?_,L++L1,?_,fun t ht=>?_⟩
 ·rw[h.get id (xAf hid hb),wD a0 (xAf hid hb)];exact X.get id hid
 ·rw[k1];show L++M.log=_;rw[j1,List.append_assoc]
 ·rcases List.mem_append.1 ht with ht|ht
  ·exact Nat.le_trans hb (k2 t ht)
  ·exact j2 t ht
theorem dG.own_ge{tB tC tA tI:TypeId}{fA:FuncId}{x:mT}{M:aB}(h:dG tB tC tA tI fA x M):∀id,(id=x.k.a x.S\/id∈x.k.ids)->x.k.G<=id:=by
 rintro id (rfl|hid)
 ·rcases h.acc with⟨h1,_⟩|⟨b,h1,_,h3,_⟩
  ·rw[h1];exact h.lo _ (by unfold BK.ids BK.a;simp)
  ·rw[h1];exact h3
 ·exact h.lo id hid
structure IX where
 n:Nat
 es:List E4
 rank:List Int
 arcs:List A7
 up:List (List Int)
 down:List (List Int)
def Fi(x:IX)(v:Value)(M:aB):Prop:=∃a b c d e,v= .agg ⟨[i64 ((x.n:Nat):Int),a,b,c,d,e]⟩/\aQ x.es a M/\aH x.rank b M/\cL x.arcs c M/\cA x.up d M/\cA x.down e M
instance:AP Fi:=⟨fun{x y _ _} ⟨a,b,c,d,e,h1,h2,h3,h4,h5,h6⟩ ⟨a',b',c',d',e',k1,k2,k3,k4,k5,k6⟩=>by
 rw[h1] at k1;simp only [Value.agg.injEq,Array.mk.injEq,List.cons.injEq,and_true] at k1;obtain⟨e0,rfl,rfl,rfl,rfl,rfl⟩:=k1;have e1:=AP.uniq (R:=aQ) h2 k2;have e2:=AP.uniq (R:=aH) h3 k3;have e3:=AP.uniq (R:=cL) h4 k4;have e4:=AP.uniq (R:=cA) h5 k5;have e5:=AP.uniq (R:=cA) h6 k6;have e6:x.n=y.n:=by simp only [i64,Value.int.injEq,true_and] at e0;omega
 obtain⟨x1,x2,x3,x4,x5,x6⟩:=x;obtain⟨y1,y2,y3,y4,y5,y6⟩:=y;simp only at e1 e2 e3 e4 e5 e6;rw[e1,e2,e3,e4,e5,e6],fun hE ⟨a,b,c,d,e,h1,h2,h3,h4,h5,h6⟩=>⟨a,b,c,d,e,h1,AP.ext (R:=aQ) hE h2,AP.ext (R:=aH) hE h3,AP.ext (R:=cL) hE h4,AP.ext (R:=cA) hE h5,AP.ext (R:=cA) hE h6⟩⟩
def ixH(n:Nat)(es:List E4)(s:Er):IX:=⟨n,es,s.rank,s.b.arcs,s.up,s.down⟩
def sS(x:Nat×List E4):IX:=ixH x.1 x.2 (kJ x.1 x.2 (dA x.1 x.2))
section
variable{tB tC tA tI:TypeId}{fA:FuncId}
theorem dV.rowss{rs:List (List Int)}{us:List Value}{M M':aB}{U c:Nat}{q:Bool}{t:TypeId}{wf:Nat}(hE:∀id b,M.get id=some b->M'.get id=some b)(h:dV rs us M)(g:M'.get U=some ⟨us,t,1,wf,q⟩):cA rs (aC U 0 rs.length c) M':=
 ⟨U,c,_,rfl,g,rfl,h.1,fun u r hr=>by obtain⟨x,h1,h2⟩:=h.2 u r hr;exact⟨x,h1,AP.ext (R:=aH) hE h2⟩⟩
theorem dQ.new{tA lo:Nat}{bad:List Nat}{arcs:List A7}{S:Value}{M:aB}(h:dQ tA lo bad arcs S M)(hl:arcs.length<=9223372036854775807):cL arcs S (hid lo M):=by
 rcases h with⟨rfl,rfl⟩|⟨b,rfl,h2,h3,h4,h5⟩
 ·exact aG.nil none
 ·exact aG.of_blk' (gJ h3 h5) rfl rfl (fun _ _=>rfl) hl
theorem dG.ix{x:mT}{M:aB}(h:dG tB tC tA tI fA x M)(hr:x.s.rank.length=x.n)(hu:x.s.up.length=x.n)(hd:x.s.down.length=x.n)(hl:x.s.b.arcs.length<=9223372036854775807)(hn:x.n<=60):
  Fi (ixH x.n x.es x.s) (.agg ⟨[i64 ((x.n:Nat):Int),x.ev,aC x.k.R 0 x.n (x.n+1),x.S,aC x.k.U 0 x.n (x.n+1),aC x.k.D 0 x.n (x.n+1)]⟩) (hid x.k.G M):=by
 have hh:∀id b,(bS (x.k.hideS x.S) M).get id=some b->(hid x.k.G M).get id=some b:=fun id b hg=>gJ (jK.1 hg).1.2.2 (jK.1 hg).2
 have gU:(hid x.k.G M).get x.k.U=_:=gJ (h.lo _ (by simp [BK.ids])) h.gU
 have gD:(hid x.k.G M).get x.k.D=_:=gJ (h.lo _ (by simp [BK.ids])) h.gD
 have gR:(hid x.k.G M).get x.k.R=_:=gJ (h.lo _ (by simp [BK.ids])) h.gR
 refine⟨_,_,_,_,_,rfl,AP.ext (R:=aQ) hh h.es,?_,h.acc.new hl,?_,?_⟩
 ·exact aG.of_blk' gR hr (vG x.s.rank).symm (fun _ _=>rfl) (by show x.s.rank.length<=_;omega)
 ·have:=dV.rowss (c:=x.n+1) hh h.up gU;rw[hu] at this;exact this
 ·have:=dV.rowss (c:=x.n+1) hh h.down gD;rw[hd] at this;exact this
end
end Go.Am
end

noncomputable section
namespace Go.Am
open Go
set_option linter.unusedVariables false
theorem Ih{n:Nat}{l:List E4}(h:fF ((n:Nat):Int) l=true):sW n l:=fun e he=>by
 obtain⟨_,_,_,h4⟩:=eM h;obtain⟨h5,h6,h7,h8,h9⟩:=h4 e he;simp only [fF,Bool.and_eq_true,List.all_eq_true] at h;have:=h.2 e he;simp only [iW,Bool.and_eq_true,Fw,decide_eq_true_eq] at this;exact⟨⟨h5,h6⟩,⟨h7,h8⟩,h9,this.1.2,this.2⟩
theorem Nj(n:Nat)(s:Er)(v:Nat):(cX n s v).b=s.b/\(cX n s v).gone=s.gone/\(cX n s v).rank=s.rank/\(cX n s v).down=s.down/\(cX n s v).up.length=s.up.length:=by
 induction v with
 |zero=>exact⟨rfl,rfl,rfl,rfl,rfl⟩
 |succ v ih=>
  unfold cX
  cases bV (cX n s v).gone v
  ·obtain⟨h1,h2,h3,h4,h5⟩:=ih;exact⟨h1,h2,h3,h4,by rw[cond_false];simpa using h5⟩
  ·exact ih
theorem zE{n:Nat}{es:List E4}{l:List Int}(a0:sW n es)(hl:∀v∈l,0<=v/\v<n)(hll:l.length<=n)(hn:n<=24):(kJ n es l).b.arcs.length<400000/\(kJ n es l).rank.length=n/\(kJ n es l).up.length=n/\(kJ n es l).down.length=n/\(kJ n es l).gone.length=n:=by obtain⟨h1,h2,h3,h4,h5⟩:=Nj n (fP n es l l.length) n;have h:=HG.go a0 hl l.length (Nat.le_refl _);unfold kJ;rw[h1,h2,h3,h4,h5];have e3:l.length*(25*n*n)<=24*(25*24*24):=Nat.mul_le_mul (by omega) (Nat.mul_le_mul (Nat.mul_le_mul (Nat.le_refl _) hn) hn);have e4:n*n*5<=24*24*5:=Nat.mul_le_mul_right _ (Nat.mul_le_mul hn hn);have:=h.len;exact⟨by omega,h.rank,h.up,h.down,h.gone⟩
end Go.Am
end

noncomputable section
namespace Go.Am
open Go
set_option linter.unusedVariables false
section
variable{tB tC tA tI:TypeId}
theorem jG.own_ge{x:mT}{M:aB}(h:jG tB tC tA tI x M):∀id,(id=x.k.a x.S\/id∈x.k.ids)->x.k.K<=id:=by
 rintro id (rfl|hid)
 ·rcases h.acc with⟨h1,_⟩|⟨b,h1,_,h3,_⟩
  ·rw[h1];exact h.lo _ (by unfold BK.ids BK.a;simp)
  ·rw[h1];exact h3
 ·exact h.lo id hid
theorem jG.ix{x:mT}{M:aB}(h:jG tB tC tA tI x M)(hr:x.s.rank.length=x.n)(hu:x.s.up.length=x.n)(hd:x.s.down.length=x.n)(hl:x.s.b.arcs.length<=9223372036854775807)(hn:x.n<=60)(he:x.es.length<=400):
  Fi (ixH x.n x.es x.s) (.agg ⟨[i64 ((x.n:Nat):Int),x.ev,aC x.k.R 0 x.n x.n,x.S,aC x.k.U 0 x.n (x.n+1),aC x.k.D 0 x.n (x.n+1)]⟩) (hid x.k.K M):=by
 have a0:x.k.K<=x.k.G:=h.lo _ (by simp [BK.ids])
 have hh:∀id b,(bS (x.k.hideS x.S) M).get id=some b->(hid x.k.K M).get id=some b:=fun id b hg=>gJ (Nat.le_trans a0 (jK.1 hg).1.2.2) (jK.1 hg).2
 have gU:(hid x.k.K M).get x.k.U=_:=gJ (h.lo _ (by simp [BK.ids])) h.gU
 have gD:(hid x.k.K M).get x.k.D=_:=gJ (h.lo _ (by simp [BK.ids])) h.gD
 have gR:(hid x.k.K M).get x.k.R=_:=gJ (h.lo _ (by simp [BK.ids])) h.gR
 have gC:(hid x.k.K M).get x.k.C=_:=gJ (h.lo _ (by simp [BK.ids])) h.gC
 obtain⟨c,hc⟩:=h.es
 refine⟨_,_,_,_,_,rfl,?_,?_,h.acc.new hl,?_,?_⟩
 ·show aQ x.es x.ev _;rw[hc];exact aG.of_blk' gC rfl rfl (fun _ _=>rfl) (by omega)
 ·exact aG.of_blk' gR hr (vG x.s.rank).symm (fun _ _=>rfl) (by show x.s.rank.length<=_;omega)
 ·have:=dV.rowss (c:=x.n+1) hh h.up gU;rw[hu] at this;exact this
 ·have:=dV.rowss (c:=x.n+1) hh h.down gD;rw[hd] at this;exact this
end
end Go.Am
end

noncomputable section
namespace Go.Am
open Go
structure SX(x:IX):Prop where
 ck:fF ((x.n:Nat):Int) x.es=true
 rl:x.rank.length=x.n
 ul:x.up.length=x.n
 dl:x.down.length=x.n
theorem Wv{n:Nat}{es:List E4}(hck:fF ((n:Nat):Int) es=true)(hn:n<=24):SX (sS (n,es)):=by obtain⟨_,s2,s3,s4,_⟩:=zE (Ih hck) (iC hck) (mZ hck) hn;exact⟨hck,s2,s3,s4⟩
theorem Kn{x:IX}{v:Value}{M:aB}(h:Fi x v M)(g:SX x):∃(ea:Option Addr) (ec rb ro rc:Nat) (aa:Option Addr) (ac ub uc db dc:Nat),v= .agg ⟨[i64 ((x.n:Nat):Int),.slice ea x.es.length ec,aC rb ro x.n rc,.slice aa x.arcs.length ac,aC ub 0 x.n uc,aC db 0 x.n dc]⟩/\aQ x.es (.slice ea x.es.length ec) M/\aH x.rank (aC rb ro x.n rc) M/\cL x.arcs (.slice aa x.arcs.length ac) M/\cA x.up (aC ub 0 x.n uc) M/\cA x.down (aC db 0 x.n dc) M:=by obtain⟨a,b,c,d,e,rfl,h1,h2,h3,h4,h5⟩:=h;obtain⟨ea,ec,rfl⟩:=aG.form h1;obtain⟨ra,rc,rfl⟩:=aG.form h2;obtain⟨aa,ac,rfl⟩:=aG.form h3;obtain⟨ub,uc,rfl⟩:=gM h4;obtain⟨db,dc,rfl⟩:=gM h5;have hn:=(eM g.ck).1;obtain⟨rb,ro,rfl,_⟩:=cN h2 (by rw[g.rl];omega);rw[g.rl] at h2;rw[g.ul] at h4;rw[g.dl] at h5;exact⟨ea,ec,rb,ro,rc,aa,ac,ub,uc,db,dc,by rw[g.rl,g.ul,g.dl],h1,h2,h3,h4,h5⟩
end Go.Am
end
