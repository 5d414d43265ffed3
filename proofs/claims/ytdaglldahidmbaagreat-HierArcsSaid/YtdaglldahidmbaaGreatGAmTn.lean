/-
  Package hier: each of its laws for every argument; no conditions. The last text states which.
-/
import Derived.Test.YtdaglldahidmbaaGreatGAmPw
import Derived.Test.YtdaglldahidmbaaGreatGAmMk
import Derived.Test.YtdaglldahidmbaaGreatGAmBk
set_option linter.unusedVariables false
set_option linter.unusedSimpArgs false
noncomputable section
namespace Go.Am
open Go
set_option linter.unusedVariables false
variable{P:Program}{GL:List Nat}
def cut(b:Nat)(M:aB):aB:=⟨M.blks,b,M.hide,M.log⟩
theorem vV{b id:Nat}{M:aB}(hb:b<=M.next)(h:id<b):(cut b M).get id=M.get id:=by
 cases hg:M.get id with
 |some k=>
  obtain⟨h1,h2,h3,h4⟩:=cA.1 hg
  exact cA.2 ⟨h,h2,h3,h4⟩
 |none=>
  cases hc:(cut b M).get id with
  |none=>rfl
  |some k=>
   obtain⟨h1,h2,h3,h4⟩:=cA.1 hc
   have:M.get id=some k:=cA.2 ⟨xAf h1 hb,h2,h3,h4⟩
   rw[hg] at this;cases this
theorem Ext.cut{b:Nat}{M:aB}(hb:b<=M.next):Ext (Go.Am.cut b M) M:=⟨hb,rfl,fun _ hid=>(vV hb hid).symm,[],rfl,fun t h=>by cases h⟩
def TC(P:Program)(GL:List Nat)(f:FuncId)(Q:List Value->aB->Value->aB->Prop):List Value->aB->Value->aB->Prop:=fun args M v M'=>Ev P GL f args M v M'/\Q args M v M'
theorem TC.ok{f:FuncId}{Q:List Value->aB->Value->aB->Prop}(B:Bd):dG P GL B f (pick (TC P GL f Q)):=dG.pick fun _ _ _ _ h=>h.1
theorem wC{n t:Nat}: ∀{l:List Nat},t∈kL n l->t∈l
 | [],h=>by cases h
 |x::l,h=>by
  unfold kL at h
  cases hx:Nat.blt x n<;>rw[hx] at h
  ·exact List.mem_cons_of_mem _ (wC h)
  ·rcases List.mem_cons.1 h with rfl|h
   ·exact List.mem_cons_self ..
   ·exact List.mem_cons_of_mem _ (wC h)
theorem Vt{f:FuncId}{Q:List Value->aB->Value->aB->Prop}{args:List Value}{M M0:aB}{b:Nat}(hM:aA M)(X:Ext M0 M)(hb:M0.next<=b)(a0:b<=M.next)
  (hK: ∃v M',TC P GL f Q args {M with log:= []} v M') (hT: ∀v M',Q args {M with log:= []} v M'->Ext (cut b {M with log:= []}) M'):
  ∃t v M' M1,(∀SP:dH,SP.calls f=some (pick (TC P GL f Q))->OQ.holds P SP (.cl f args M ((bif t then 1 else 2),.val v,M1)))/\Ext M0 M1/\aA M1/\M.next<=M1.next/\Q args {M with log:= []} v M'/\ ∀id,M1.get id=M'.get id:=by
 obtain⟨v,M',h1,h2,h3⟩:=Gx hK
 have hE:=hT v M' h3
 obtain⟨L0,ha⟩:=h2.abs
 have hn:M.next<=M'.next:=ha.next
 have hh:M'.hide=M.hide:=hE.hide
 obtain⟨L,k1,k2⟩:=hE.log
 have a1:M'.log=L:=by rw[k1];exact List.append_nil L
 obtain⟨L1,j1,j2⟩:=X.log
 have key: ∀l:List Nat,(∀t∈l,b<=t)->Ext M0 {M' with log:=l++M.log,hide:=M.hide}/\aA {M' with log:=l++M.log,hide:=M.hide}/\ ∀id,({M' with log:=l++M.log,hide:=M.hide}:aB).get id=M'.get id:=fun l hl=>by
  have hg: ∀id,({M' with log:=l++M.log,hide:=M.hide}:aB).get id=M'.get id:=fun id=>by
   unfold aB.get aB.getA
   simp only [hh]
  refine⟨⟨Nat.le_trans X.next hn,X.hide,fun id hid=> ?_,l++L1,by show l++M.log=_;rw[j1,List.append_assoc],fun t ht=> ?_⟩,fun id hid=>xAf (hM id hid) hn,hg⟩
  ·rw[hg,hE.get id (xAf hid hb),vV (M:={M with log:= []}) a0 (xAf hid hb)]
   exact X.get id hid
  ·rcases List.mem_append.1 ht with ht|ht
   ·exact Nat.le_trans hb (hl t ht)
   ·exact j2 t ht
 cases hl:kL M.next M'.log with
 |nil=>
  obtain⟨q1,q2,q3⟩:=key [] (fun t ht=>by cases ht)
  refine⟨true,v,M',{M' with log:= []++M.log,hide:=M.hide},fun SP hs=>⟨?_,by simp⟩,q1,q2,hn,h3,q3⟩
  unfold kT jG fP
  rw[hs]
  simp only [h1,hl]
  rfl
 |cons x l=>
  obtain⟨q1,q2,q3⟩:=key (x::l) (fun t ht=>by rw[<-hl] at ht;have:=wC ht;rw[a1] at this;exact k2 t this)
  refine⟨false,v,M',{M' with log:=(x::l)++M.log,hide:=M.hide},fun SP hs=>⟨?_,by simp⟩,q1,q2,hn,h3,q3⟩
  unfold kT jG fP
  rw[hs]
  simp only [h1,hl]
  rfl
abbrev oU(P:Program)(tb:List Nat)(n:Nat)(fn:Func)(q:QC)(args:List Value)(M:aB)(F:List OF):=(nZ P [] tb n fn.ntmps q (mE args 0 .nil) M F 0).map (fun r=>(r.1.1,r.1.2.2,r.2.2.2))
theorem Ev.told_none{SP:dH}(hN:dW P)(hm:P.follows .mixedOrders=true){f:FuncId}{fn:Func}{q:QC}{tb:List Nat}{n:Nat}{args:List Value}{M M':aB}{F:List OF}{e:cN}{qs:qN}
  (hf:P.funcs[f]?=some fn) (hq:aE P f=some q) (hl:Nat.ble args.length fn.ntmps=true) (hr:fn.results= #[]) (hS: ∀B,cO P [] B SP) (hB: ∀id,fL id tb=false->SP.blocks id=none)
  (hx:oU P tb n fn q args M F=some (e,M',qs)) (he:e= .ret\/e= .normal) (hh:fW P SP qs):
  Ev P [] f args M (.tuple #[]) M':=by
 refine Ev.told hN hm hf hq hl hS hB (e:=e) (n:=n) (F:=F) (qs:=qs) ?_ he hh
 unfold oU at hx
 cases a0:nZ P [] tb n fn.ntmps q (mE args 0 .nil) M F 0 with
 |none=>rw[a0] at hx;cases hx
 |some r=>
  rw[a0] at hx
  simp only [Option.map_some,Option.some.injEq,Prod.mk.injEq] at hx⊢
  refine⟨hx.1,?_,hx.2⟩
  unfold kU
  rw[hr]
  rfl
end Go.Am
end

noncomputable section
namespace Go.Am
open Go
variable{P:Program}
abbrev oT3(P:Program)(tb:List Nat)(n:Nat)(fn:Func)(q:QC)(args:List Value)(M:aB)(F:List OF)(ks:List Nat):=(nZ P [] tb n fn.ntmps q (mE args 0 .nil) M F 0).map (fun r=>(r.1.1,ks.map r.1.2.1.get,r.1.2.2,r.2.2.2))
theorem Ev.told_three{SP:dH}(hN:dW P)(hm:P.follows .mixedOrders=true){f:FuncId}{fn:Func}{q:QC}{tb:List Nat}{n a b c:Nat}{args:List Value}{M M':aB}{u v w:Value}{F:List OF}{qs:qN}
  (hf:P.funcs[f]?=some fn) (hq:aE P f=some q) (hl:Nat.ble args.length fn.ntmps=true) (hr:fn.results= #[.tmp a,.tmp b,.tmp c]) (hS: ∀B,cO P [] B SP) (hB: ∀id,fL id tb=false->SP.blocks id=none)
  (hx:oT3 P tb n fn q args M F [a,b,c]=some (.ret,[some u,some v,some w],M',qs)) (hh:fW P SP qs):
  Ev P [] f args M (.tuple #[u,v,w]) M':=by
 refine Ev.told hN hm hf hq hl hS hB (e:= .ret) (n:=n) (F:=F) (qs:=qs) ?_ (.inl rfl) hh
 unfold oT3 at hx
 cases a0:nZ P [] tb n fn.ntmps q (mE args 0 .nil) M F 0 with
 |none=>rw[a0] at hx;cases hx
 |some r=>
  rw[a0] at hx
  simp only [Option.map_some,Option.some.injEq,Prod.mk.injEq,List.map_cons,List.map_nil,List.cons.injEq,and_true] at hx⊢
  obtain⟨h1,⟨h2,h3,h4⟩,h5,h6⟩:=hx
  refine⟨h1,?_,h5,h6⟩
  unfold kU
  rw[hr]
  simp only [xA,Gb,h2,h3,h4]
end Go.Am
end
noncomputable section
namespace Go.Am
open Go
theorem Ht{P:Program}{sT xT elem:TypeId}{M:aB}{a bx o c w y len n:Nat}{blk b0:aU}{new old:List Value}(hn:0<n)(hs:P.underlying sT=some (.slice elem))(hx:P.underlying xT=some (.slice elem))(he:elemOf P elem=some (w,y,true))(hw:0<w)(hy:y<=1024)(hlen:len+n<1073741824)
  (hg:M.get bx=some blk) (ht:cP (n*w) (blk.cs.drop o)=some new) (hc:new.all isCell=true) (hl:new.length=n*w) (h0:M.get a=some b0) (a1:cP (len*w) b0.cs=some old) (a2:b0.elem=elem) (a3:b0.esz=w):
  cX P [sT,xT] (.slice (some ⟨a,0,none⟩) len (len+1)) (.slice (some ⟨bx,o,none⟩) n c) M=some (1,.val (.slice (some ⟨M.next,0,none⟩) (len+n) (len+n)),M.alloc ⟨old++new,elem,w,0,true⟩):=by
 unfold elemOf at he
 cases hi:P.info? elem with
 |none=>rw[hi] at he;cases he
 |some e=>
  rw[hi] at he
  simp only [Option.map_some,Option.some.injEq] at he
  have hr:=pM (n:=len+n) he hw hy (by omega)
  simp only [Prod.mk.injEq] at he
  obtain⟨rfl,rfl,_⟩:=he
  have a6:Nat.beq n 0=false:=by
   cases hb:Nat.beq n 0
   ·rfl
   ·have:=xBa hb;omega
  have a4:Nat.beq (len+1) len=false:=by
   cases hb:Nat.beq (len+1) len
   ·rfl
   ·have:=xBa hb;omega
  have a5:Nat.ble (len+1) (len+n)=true:=Nat.ble_eq_true_of_le (by omega)
  unfold cX
  have a0:cP (len*e.size) (b0.cs.drop 0)=some old:=by rw[List.drop_zero];exact a1
  simp only [hs,hx,hi,nW,jX,iV,hg,range,ht,hr,hc,hl,h0,a0,a3,a2,a6,a4,a5]
  simp [made,nQ]
end Go.Am
end

noncomputable section
namespace Go.Am
open Go
set_option linter.unusedVariables false
structure A7 where
 f:Int
 t:Int
 m:Int
 c:Int
 e:Int
 a:Int
 b:Int
abbrev bM(x:A7):List Value:= [i64 x.f,i64 x.t,i64 x.m,i64 x.c,i64 x.e,i64 x.a,i64 x.b]
instance:Vj bM:=⟨fun x y h=>by cases x;cases y;simpa [bM,i64] using h⟩
abbrev dJ:=Lt bM 7
def iJ(i:Int)(e:E4):A7:=⟨e.f,e.t,e.m,e.c,i,0,0⟩
def mK(x y:A7)(a b:Int):A7:=⟨x.f,y.t,x.m,x.c+y.c,-1,a,b⟩
def dP(n f t m:Int):Int:=(f*n+t)*5+m
def dM(cost:Int->Int)(was c:Int):Bool:=was== -1||decide (c<cost was)
structure HB where
 arcs:List A7
 cur:List Int
def cU(arcs:List A7)(i:Int):Int:=((arcs[i.toNat]?).map (·.c)).getD 0
def dS(es:List E4)(i:Int):Int:=((es[i.toNat]?).map (·.c)).getD 0
def gO(n:Nat)(a:A7):Nat:=(dP n a.f a.t a.m).toNat
def Ey(n:Nat)(e:E4):Nat:=(dP n e.f e.t e.m).toNat
def aX(cur:List Int)(k:Nat):Int:=(cur[k]?).getD (-1)
def fO(n:Nat)(s:HB)(a:A7):HB:=
 bif dM (cU s.arcs) (aX s.cur (gO n a)) a.c then⟨s.arcs++ [a],s.cur.set (gO n a) s.arcs.length⟩ else s
def kN(n:Nat):List Int:=List.replicate (n*n*5) (-1)
def cS(n:Nat)(es:List E4):Nat->List Int
 |0=>kN n
 |i+1=>match es[i]? with
  |some e=>bif dM (dS es) (aX (cS n es i) (Ey n e)) e.c then(cS n es i).set (Ey n e) i else cS n es i
  |none=>cS n es i
def eL(n:Nat)(es:List E4)(s:HB)(i:Int):HB:=bif i== -1 then s else match es[i.toNat]? with
 |some e=>fO n s (iJ i e)
 |none=>s
def oQ(n:Nat)(es:List E4)(l:List Int):HB:=l.foldl (eL n es) ⟨[],kN n⟩
def Cj(n:Nat)(es:List E4):HB:=oQ n es (cS n es es.length)
inductive wV where|out|inn
def bK(n:Nat)(w:wV)(v u m:Nat):Nat:=match w with
 | .out=>(v*n+u)*5+m
 | .inn=>(u*n+v)*5+m
def gS(n:Nat)(cur:List Int)(w:wV)(v u:Nat):Nat->List Int
 |0=> []
 |m+1=>gS n cur w v u m++(bif aX cur (bK n w v u m)== -1 then[] else[aX cur (bK n w v u m)])
def cH(g:List Bool)(u:Nat):Bool:=(g[u]?).getD true
def eP(n:Nat)(cur:List Int)(g:List Bool)(w:wV)(v:Nat):Nat->List Int
 |0=> []
 |u+1=>eP n cur g w v u++(bif cH g u then[] else gS n cur w v u 5)
abbrev cQ(n:Nat)(cur:List Int)(g:List Bool)(w:wV)(v:Nat):List Int:=eP n cur g w v n
def sK(n:Nat)(v:Nat)(i:Int)(s:HB)(o:Int):HB:=match s.arcs[i.toNat]?,s.arcs[o.toNat]? with
 |some x,some y=>bif y.t !=(v:Int)&&x.m==y.m then fO n s (mK x y i o) else s
 |_,_=>s
def tH(n v:Nat)(ups:List Int)(s:HB)(i:Int):HB:=ups.foldl (sK n v i) s
def rA(n v:Nat)(ups downs:List Int)(s:HB):HB:=downs.foldl (tH n v ups) s
structure Ba where
 b:HB
 gone:List Bool
 rank:List Int
 up:List (List Int)
 down:List (List Int)
def nV(n:Nat)(s:Ba)(v:Nat):Ba:=
 let u:=cQ n s.b.cur s.gone .out v
 let g:=s.gone.set v true
 let d:=cQ n s.b.cur g .inn v
 ⟨rA n v u d s.b,g,s.rank,s.up.set v u,s.down.set v d⟩
def cV(n:Nat)(es:List E4)(l:List Int):Nat->Ba
 |0=>⟨Cj n es,List.replicate n false,List.replicate n (-1),List.replicate n [],List.replicate n []⟩
 |i+1=>match l[i]? with
  |some v=>nV n {cV n es l i with rank:=(cV n es l i).rank.set v.toNat i} v.toNat
  |none=>cV n es l i
def eH(n:Nat)(s:Ba):Nat->Ba
 |0=>s
 |v+1=>bif cH (eH n s v).gone v then eH n s v else{eH n s v with up:=(eH n s v).up.set v (cQ n (eH n s v).b.cur (eH n s v).gone .out v)}
def iH(n:Nat)(es:List E4)(l:List Int):Ba:=eH n (cV n es l l.length) n
structure HI(n:Nat)(C:Int)(s:HB):Prop where
 len:s.cur.length=n*n*5
 cur: ∀(k:Nat) (i:Int),s.cur[k]?=some i->i= -1\/(0<=i/\ ∃a,s.arcs[i.toNat]?=some a/\gO n a=k)
 arc: ∀a∈s.arcs,(0<=a.f/\a.f<n)/\(0<=a.t/\a.t<n)/\(0<=a.m/\a.m<5)/\0<=a.c/\a.c<=C
theorem iP{n:Nat}{f t m:Int}(hf:0<=f/\f<n)(ht:0<=t/\t<n)(hm:0<=m/\m<5):0<=dP n f t m/\dP n f t m<((n*n*5:Nat):Int):=by
 unfold dP
 have h1:0<=f*n:=Int.mul_nonneg hf.1 (by omega)
 have h2:f*n<=(n-1)*n:=Int.mul_le_mul_of_nonneg_right (by omega) (by omega)
 have h3:((n:Int)-1)*n=n*n-n:=by rw[Int.sub_mul,Int.one_mul]
 have h4:((n*n*5:Nat):Int)=(n:Int)*n*5:=by push_cast;rfl
 rw[h4]
 constructor
 ·omega
 ·omega
theorem Ea{n:Nat}{f t m f' t' m':Int}(hf:0<=f/\f<n)(ht:0<=t/\t<n)(hm:0<=m/\m<5)(hf':0<=f'/\f'<n)(a0:0<=t'/\t'<n)(hm':0<=m'/\m'<5)(h:dP n f t m=dP n f' t' m'):f=f'/\t=t'/\m=m':=by
 unfold dP at h
 have e1:f*n+t=f'*n+t':=by omega
 have e2:m=m':=by omega
 have hn:(0:Int)<n:=by omega
 have e3:(f*n+t)/n=f:=by rw[Int.add_comm,Int.add_mul_ediv_right _ _ (by omega),Int.ediv_eq_zero_of_lt ht.1 ht.2];omega
 have e4:(f'*n+t')/n=f':=by rw[Int.add_comm,Int.add_mul_ediv_right _ _ (by omega),Int.ediv_eq_zero_of_lt a0.1 a0.2];omega
 have e5:f=f':=by rw[<-e3,<-e4,e1]
 subst e5
 exact⟨rfl,by omega,e2⟩
theorem gI{cur:List Int}{k:Nat}(h:k<cur.length):cur[k]?=some (aX cur k):=by
 unfold aX
 rw[xAe h];rfl
theorem HI.offer{n:Nat}{C:Int}{s:HB}(h:HI n C s){a:A7}(hf:0<=a.f/\a.f<n)(ht:0<=a.t/\a.t<n)(hm:0<=a.m/\a.m<5)(hc:0<=a.c/\a.c<=C):HI n C (fO n s a):=by
 unfold fO
 cases hq:dM (cU s.arcs) (aX s.cur (gO n a)) a.c with
 |false=>exact h
 |true=>
  have hp:=iP hf ht hm
  have hk:gO n a<s.cur.length:=by rw[h.len];unfold gO;omega
  refine⟨by simpa using h.len,fun k i hi=> ?_,fun x hx=> ?_⟩
  ·simp only [cond_true] at hi⊢
   rw[List.getElem?_set] at hi
   by_cases hkk:gO n a=k
   ·subst hkk
    rw[if_pos rfl,if_pos hk] at hi
    have:=Option.some.inj hi
    subst this
    refine .inr ⟨by omega,a,?_,rfl⟩
    rw[Int.toNat_natCast,List.getElem?_append_right (Nat.le_refl _),Nat.sub_self];rfl
   ·rw[if_neg hkk] at hi
    rcases h.cur k i hi with h1|⟨h1,x,h2,h3⟩
    ·exact .inl h1
    ·refine .inr ⟨h1,x,?_,h3⟩
     rw[List.getElem?_append_left (xAg.1 h2).1];exact h2
  ·simp only [cond_true] at hx
   rcases List.mem_append.1 hx with hx|hx
   ·exact h.arc x hx
   ·rw[List.mem_singleton.1 hx];exact⟨hf,ht,hm,hc⟩
theorem Dv(n:Nat)(s:HB)(a:A7):s.arcs.length<=(fO n s a).arcs.length/\(fO n s a).arcs.length<=s.arcs.length+1:=by
 unfold fO
 cases dM (cU s.arcs) (aX s.cur (gO n a)) a.c<;>simp
theorem wG{n:Nat}{s:HB}{a x:A7}{i:Nat}(h:s.arcs[i]?=some x):(fO n s a).arcs[i]?=some x:=by
 unfold fO
 cases dM (cU s.arcs) (aX s.cur (gO n a)) a.c
 ·exact h
 ·simp only [cond_true]
  rw[List.getElem?_append_left (xAg.1 h).1];exact h
theorem Gu(n:Nat):(kN n).length=n*n*5:=by simp [kN]
theorem HI.zero(n:Nat)(C:Int):HI n C ⟨[],kN n⟩:=by
 refine⟨Gu n,fun k i hi=> .inl ?_,fun a ha=>by cases ha⟩
 simp only [kN,List.getElem?_replicate] at hi
 split at hi
 ·exact(Option.some.inj hi).symm
 ·cases hi
def iQ(n:Nat)(es:List E4):Prop:= ∀e∈es,(0<=e.f/\e.f<n)/\(0<=e.t/\e.t<n)/\(0<=e.m/\e.m<5)/\0<=e.c/\e.c<=2147483647
theorem qG(n:Nat)(es:List E4)(i:Nat):(cS n es i).length=n*n*5:=by
 induction i with
 |zero=>exact Gu n
 |succ i ih=>
  unfold cS
  split
  ·rename_i e he
   cases dM (dS es) (aX (cS n es i) (Ey n e)) e.c<;>simpa using ih
  ·exact ih
theorem mG(n:Nat)(es:List E4)(i:Nat): ∀(k:Nat) (x:Int),(cS n es i)[k]?=some x->x= -1\/(0<=x/\x<i/\ ∃e,es[x.toNat]?=some e/\Ey n e=k):=by
 induction i with
 |zero=>
  intro k x hx
  simp only [cS,kN,List.getElem?_replicate] at hx
  split at hx
  ·exact .inl (Option.some.inj hx).symm
  ·cases hx
 |succ i ih=>
  intro k x hx
  unfold cS at hx
  have old:(cS n es i)[k]?=some x->x= -1\/(0<=x/\x<((i+1:Nat):Int)/\ ∃e,es[x.toNat]?=some e/\Ey n e=k):=fun hh=>by
   rcases ih k x hh with h1|⟨h1,h2,h3⟩
   ·exact .inl h1
   ·exact .inr ⟨h1,by omega,h3⟩
  split at hx
  ·rename_i e he
   cases hq:dM (dS es) (aX (cS n es i) (Ey n e)) e.c<;>rw[hq] at hx
   ·exact old hx
   ·simp only [cond_true] at hx
    rw[List.getElem?_set] at hx
    split at hx
    ·rename_i hk
     split at hx
     ·have:=Option.some.inj hx
      subst this
      exact .inr ⟨by omega,by omega,e,by rw[Int.toNat_natCast];exact he,hk⟩
     ·cases hx
    ·exact old hx
  ·exact old hx
theorem HI.begin{n:Nat}{C:Int}{es:List E4}(a0:iQ n es)(hC:2147483647<=C): ∀(l:List Int),HI n C (oQ n es l)/\(oQ n es l).arcs.length<=l.length:=by
 intro l
 unfold oQ
 have: ∀(l:List Int) (s:HB),HI n C s->HI n C (l.foldl (eL n es) s)/\(l.foldl (eL n es) s).arcs.length<=s.arcs.length+l.length:=by
  intro l
  induction l with
  |nil=>intro s h;exact⟨h,Nat.le_refl _⟩
  |cons x l ih=>
   intro s h
   have h1:HI n C (eL n es s x)/\(eL n es s x).arcs.length<=s.arcs.length+1:=by
    unfold eL
    cases x==(-1:Int)
    ·simp only [cond_false]
     split
     ·rename_i e he
      obtain⟨q1,q2,q3,q4⟩:=a0 e (xAh he)
      exact⟨h.offer q1 q2 q3 ⟨q4.1,Int.le_trans q4.2 hC⟩,(Dv n s _).2⟩
     ·exact⟨h,by omega⟩
    ·exact⟨h,by simp⟩
   obtain⟨h2,h3⟩:=ih _ h1.1
   refine⟨h2,?_⟩
   simp only [List.foldl_cons,List.length_cons]
   omega
 have h:=this l ⟨[],kN n⟩ (HI.zero n C)
 exact⟨h.1,by simpa using h.2⟩
theorem xZ(n:Nat)(cur:List Int)(w:wV)(v u m:Nat):(gS n cur w v u m).length<=m:=by
 induction m with
 |zero=>simp [gS]
 |succ m ih=>
  unfold gS
  cases aX cur (bK n w v u m)==(-1:Int)<;>simp<;>omega
theorem lU(n:Nat)(cur:List Int)(g:List Bool)(w:wV)(v u:Nat):(eP n cur g w v u).length<=5*u:=by
 induction u with
 |zero=>simp [eP]
 |succ u ih=>
  have:=xZ n cur w v u 5
  unfold eP
  cases cH g u<;>simp<;>omega
theorem Dp{n:Nat}{cur:List Int}{w:wV}{v u m:Nat}{i:Int}(h:i∈gS n cur w v u m):i≠ -1/\ ∃k,k<m/\aX cur (bK n w v u k)=i:=by
 induction m with
 |zero=>simp [gS] at h
 |succ m ih=>
  unfold gS at h
  rcases List.mem_append.1 h with h|h
  ·obtain⟨h1,k,h2,h3⟩:=ih h
   exact⟨h1,k,by omega,h3⟩
  ·cases hq:aX cur (bK n w v u m)==(-1:Int)<;>rw[hq] at h
   ·simp only [cond_false,List.mem_singleton] at h
    subst h
    exact⟨fun e=>by(rw[e] at hq;cases hq),m,by omega,rfl⟩
   ·cases h
theorem Gq{n:Nat}{cur:List Int}{g:List Bool}{w:wV}{v u:Nat}{i:Int}(h:i∈eP n cur g w v u):i≠ -1/\ ∃x k,x<u/\cH g x=false/\k<5/\aX cur (bK n w v x k)=i:=by
 induction u with
 |zero=>simp [eP] at h
 |succ u ih=>
  unfold eP at h
  rcases List.mem_append.1 h with h|h
  ·obtain⟨h1,x,k,h2,h3⟩:=ih h
   exact⟨h1,x,k,by omega,h3⟩
  ·cases hq:cH g u<;>rw[hq] at h
   ·obtain⟨h1,k,h2,h3⟩:=Dp h
    exact⟨h1,u,k,by omega,hq,h2,h3⟩
   ·cases h
theorem uK{n:Nat}{w:wV}{v u m:Nat}(hv:v<n)(hu:u<n)(hm:m<5):bK n w v u m<n*n*5:=by
 have: ∀a b:Nat,a<n->b<n->(a*n+b)*5+m<n*n*5:=fun a b ha hb=>by
  have:a*n<=(n-1)*n:=Nat.mul_le_mul_right _ (by omega)
  have h3:(n-1)*n=n*n-n:=by rw[Nat.sub_mul,Nat.one_mul]
  have h4:n<=n*n:=Nat.le_mul_of_pos_left _ (by omega)
  omega
 cases w
 ·exact this v u hv hu
 ·exact this u v hu hv
theorem HI.row{n:Nat}{C:Int}{s:HB}(h:HI n C s){g:List Bool}{w:wV}{v:Nat}(hv:v<n){i:Int}(hi:i∈cQ n s.cur g w v):0<=i/\ ∃a x k,s.arcs[i.toNat]?=some a/\x<n/\cH g x=false/\k<5/\a.m=((k:Nat):Int)/\(match w with| .out=>a.f=(v:Int)/\a.t=(x:Int)| .inn=>a.f=(x:Int)/\a.t=(v:Int)):=by
 obtain⟨h1,x,k,h2,h3,h4,h5⟩:=Gq hi
 have hk:=uK (w:=w) hv h2 h4
 have hs:=gI (cur:=s.cur) (by rw[h.len];exact hk)
 rw[h5] at hs
 rcases h.cur _ _ hs with e|⟨e1,a,e2,e3⟩
 ·exact absurd e h1
 ·obtain⟨q1,q2,q3,_⟩:=h.arc a (xAh e2)
  have hp:=iP q1 q2 q3
  unfold gO at e3
  have e4:dP n a.f a.t a.m=((bK n w v x k:Nat):Int):=by omega
  refine⟨e1,a,x,k,e2,h2,h3,h4,?_⟩
  cases w
  ·have e5:((bK n .out v x k:Nat):Int)=dP n (v:Int) (x:Int) (k:Int):=by unfold bK dP;push_cast;rfl
   obtain⟨r1,r2,r3⟩:=Ea q1 q2 q3 (by omega) (by omega) (by omega) (e4.trans e5)
   exact⟨r3,r1,r2⟩
  ·have e5:((bK n .inn v x k:Nat):Int)=dP n (x:Int) (v:Int) (k:Int):=by unfold bK dP;push_cast;rfl
   obtain⟨r1,r2,r3⟩:=Ea q1 q2 q3 (by omega) (by omega) (by omega) (e4.trans e5)
   exact⟨r3,r1,r2⟩
structure Bj(n:Nat)(C:Int)(s0:HB)(k:Nat)(s:HB):Prop where
 hi:HI n (2*C) s
 old: ∀(i:Nat) (x:A7),s0.arcs[i]?=some x->s.arcs[i]?=some x
 len:s.arcs.length<=s0.arcs.length+k
theorem HI.mono{n:Nat}{C D:Int}{s:HB}(h:HI n C s)(hd:C<=D):HI n D s:=⟨h.len,h.cur,fun a ha=>by obtain⟨h1,h2,h3,h4⟩:=h.arc a ha;exact⟨h1,h2,h3,h4.1,Int.le_trans h4.2 hd⟩⟩
theorem Bj.zero{n:Nat}{C:Int}{s:HB}(hC:0<=C)(h:HI n C s):Bj n C s 0 s:=⟨h.mono (by omega),fun _ _ h=>h,Nat.le_refl _⟩
theorem Bj.one{n v k:Nat}{C:Int}{s0 s:HB}{i o:Int}(h0:HI n C s0)(h:Bj n C s0 k s)(hi:i.toNat<s0.arcs.length)(ho:o.toNat<s0.arcs.length):Bj n C s0 (k+1) (sK n v i s o):=by
 have e1:=xAe hi
 have e2:=xAe ho
 unfold sK
 rw[h.old _ _ e1,h.old _ _ e2]
 simp only
 cases hq:s0.arcs[o.toNat].t !=(v:Int)&&s0.arcs[i.toNat].m==s0.arcs[o.toNat].m with
 |false=>exact⟨h.hi,h.old,by have:=h.len;simp only [cond_false];omega⟩
 |true=>
  simp only [cond_true]
  obtain⟨p1,p2,p3,p4⟩:=h0.arc _ (xAh e1)
  obtain⟨q1,q2,q3,q4⟩:=h0.arc _ (xAh e2)
  refine⟨h.hi.offer (a:=mK _ _ i o) p1 q2 p3 ?_,fun j x hj=>wG (h.old j x hj),?_⟩
  ·unfold mK;simp only;omega
  ·have:=h.len;have:=(Dv n s (mK s0.arcs[i.toNat] s0.arcs[o.toNat] i o)).2;omega
theorem Bj.row{n v k:Nat}{C:Int}{s0 s:HB}{i:Int}{ups:List Int}(h0:HI n C s0)(h:Bj n C s0 k s)(hi:i.toNat<s0.arcs.length)(ho: ∀o∈ups,o.toNat<s0.arcs.length):Bj n C s0 (k+ups.length) (tH n v ups s i):=by
 unfold tH
 induction ups generalizing k s with
 |nil=>exact h
 |cons o ups ih=>
  have:=ih (h.one (v:=v) h0 hi (ho o (List.mem_cons_self ..))) (fun x hx=>ho x (List.mem_cons_of_mem _ hx))
  rw[List.foldl_cons,List.length_cons]
  exact(show k+(ups.length+1)=k+1+ups.length by omega)▸this
theorem Bj.all{n v k:Nat}{C:Int}{s0 s:HB}{ups a0:List Int}(h0:HI n C s0)(h:Bj n C s0 k s)(hi: ∀i∈a0,i.toNat<s0.arcs.length)(ho: ∀o∈ups,o.toNat<s0.arcs.length):Bj n C s0 (k+a0.length*ups.length) (rA n v ups a0 s):=by
 unfold rA
 induction a0 generalizing k s with
 |nil=>simpa using h
 |cons i a0 ih=>
  have:=ih (h.row (v:=v) h0 (hi i (List.mem_cons_self ..)) ho) (fun x hx=>hi x (List.mem_cons_of_mem _ hx))
  rw[List.foldl_cons,List.length_cons]
  exact(show k+(a0.length+1)*ups.length=k+ups.length+a0.length*ups.length by rw[Nat.succ_mul];omega)▸this
structure HG(n:Nat)(C:Int)(k:Nat)(s:Ba):Prop where
 hi:HI n C s.b
 len:s.b.arcs.length<=k
 gone:s.gone.length=n
 rank:s.rank.length=n
 up:s.up.length=n
 down:s.down.length=n
theorem HG.leave{n k v:Nat}{C:Int}{s:Ba}(hC:0<=C)(h:HG n C k s)(hv:v<n):HG n (2*C) (k+25*n*n) (nV n s v):=by
 have hm: ∀(g:List Bool) (w:wV),∀i∈cQ n s.b.cur g w v,i.toNat<s.b.arcs.length:=fun g w i hi=>by
  obtain⟨_,a,_,_,e,_⟩:=h.hi.row hv hi
  exact(xAg.1 e).1
 have hb:=(Bj.zero hC h.hi).all (v:=v) h.hi (hm (s.gone.set v true) .inn) (hm s.gone .out)
 have l1:=lU n s.b.cur s.gone .out v n
 have l2:=lU n s.b.cur (s.gone.set v true) .inn v n
 have l3:(cQ n s.b.cur (s.gone.set v true) .inn v).length*(cQ n s.b.cur s.gone .out v).length<=25*n*n:=by
  refine Nat.le_trans (Nat.mul_le_mul l2 l1) (Nat.le_of_eq ?_)
  rw[Nat.mul_mul_mul_comm,Nat.mul_assoc 25]
 exact⟨hb.hi,by show(rA n v _ _ s.b).arcs.length<=_;have:=hb.len;have:=h.len;omega,by unfold nV;simpa using h.gone,h.rank,by unfold nV;simpa using h.up,by unfold nV;simpa using h.down⟩
theorem HG.begin{n:Nat}{es:List E4}{l:List Int}(hes:iQ n es):HG n 2147483647 (n*n*5) (cV n es l 0):=by
 obtain⟨h1,h2⟩:=HI.begin (C:=2147483647) hes (by omega) (cS n es es.length)
 refine⟨h1,?_,?_,?_,?_,?_⟩
 ·rw[qG] at h2;exact h2
 all_goals simp [cV]
theorem HG.go{n:Nat}{es:List E4}{l:List Int}(a0:iQ n es)(hl: ∀v∈l,0<=v/\v<n): ∀i,i<=l.length->HG n (2147483647*2^i) (n*n*5+i*(25*n*n)) (cV n es l i):=by
 intro i
 induction i with
 |zero=>intro _;simpa using HG.begin (l:=l) a0
 |succ i ih=>
  intro hi
  have h:=ih (by omega)
  have e:=xAe (show i<l.length by omega)
  unfold cV
  rw[e]
  simp only
  have hv:=hl _ (List.getElem_mem (show i<l.length by omega))
  have h2:HG n (2147483647*2^i) (n*n*5+i*(25*n*n)) {cV n es l i with rank:=(cV n es l i).rank.set l[i].toNat i}:=⟨h.hi,h.len,h.gone,by simpa using h.rank,h.up,h.down⟩
  have hC:(0:Int)<=2147483647*2^i:=by have:(0:Int)<=2^i:=Int.pow_nonneg (by omega);omega
  have h3:=h2.leave (v:=l[i].toNat) hC (by omega)
  have e2:(2147483647:Int)*2^(i+1)=2*(2147483647*2^i):=by rw[Int.pow_succ];omega
  have e3:n*n*5+(i+1)*(25*n*n)=n*n*5+i*(25*n*n)+25*n*n:=by rw[Nat.succ_mul];omega
  rw[e2,e3]
  exact h3
end Go.Am
end

noncomputable section
namespace Go.Am
open Go
set_option linter.unusedVariables false
variable{P:Program}
def Ca(M M':aB):Prop:= ∀id,M.get id=M'.get id
structure OB(α:Type) where
 A:α->List Value->aB->Prop
 lo:α->Nat
 own:α->Nat->Prop
 R:α->Value->aB->aB->Prop
class Yt {α:Type} (o:OB α):Prop where
 uniq: ∀{x y:α} {l:List Value} {M:aB},o.A x l M->o.A y l M->x=y
 log: ∀{x:α} {l:List Value} {M M':aB},Ca M M'->o.A x l M->o.A x l M'
 res: ∀{x:α} {v:Value} {M M1 M' M1':aB},M.next=M1.next->Ca M M1->Ca M' M1'->o.R x v M M'->o.R x v M1 M1'
def Vh{α:Type}(o:OB α)(l:List Value)(M:aB)(v:Value)(M':aB):Prop:= ∃x,o.A x l M/\o.lo x<=M.next/\Ext (cut (o.lo x) M) M'/\(∀id k,M.get id=some k-> ¬o.own x id->M'.get id=some k)/\o.R x v M M'
abbrev TO{α:Type}(P:Program)(f:FuncId)(o:OB α):=TC P [] f (Vh o)
theorem oD{α:Type}{o:OB α} [Yt o]{f:FuncId}{x:α}{l:List Value}{M M0:aB}(hM:aA M)(X:Ext M0 M)(hb:M0.next<=o.lo x)(a0:o.lo x<=M.next)(h:o.A x l M)(hK: ∀{M:aB},aA M->o.A x l M->o.lo x<=M.next-> ∃v M',TO P f o l M v M'):
  ∃t v M1,(∀SP:dH,SP.calls f=some (pick (TO P f o))->OQ.holds P SP (.cl f l M ((bif t then 1 else 2),.val v,M1)))/\Ext M0 M1/\aA M1/\M.next<=M1.next/\(∀id k,M.get id=some k-> ¬o.own x id->M1.get id=some k)/\o.R x v M M1:=by
 have hs:Ca M {M with log:= []}:=fun _=>rfl
 have h0:=Yt.log hs h
 obtain⟨t,v,M',M1,h1,h2,h3,h4,⟨y,k1,_,_,k5,k6⟩,h6⟩:=Vt hM X hb a0 (hK (aA.log hM) h0 a0) (fun v M' ⟨y,k1,_,k4,_⟩=>by rw[Yt.uniq h0 k1];exact k4)
 obtain rfl:=Yt.uniq h0 k1
 exact⟨t,v,M1,h1,h2,h3,h4,fun id k hg hid=>by rw[h6];exact k5 id k hg hid,Yt.res (o:=o) (M:={M with log:= []}) (M':=M') rfl (fun _=>rfl) (fun id=>(h6 id).symm) k6⟩
end Go.Am
end

noncomputable section
namespace Go.Am
open Go
set_option linter.unusedVariables false
structure BK where
 B:Nat
 C:Nat
 K:Nat
 G:Nat
 R:Nat
 U:Nat
 D:Nat
structure uS where
 k:BK
 n:Nat
 es:List E4
 ev:Value
 S:Value
 s:Ba
 us:List Value
 ds:List Value
def BK.ids(k:BK):List Nat:= [k.B,k.C,k.K,k.G,k.R,k.U,k.D]
def BK.hide(k:BK):List (Nat×Nat):= [(k.B,k.B+1),(k.C,k.C+1),(k.K,k.K+1),(k.G,k.G+1),(k.R,k.R+1),(k.U,k.U+1),(k.D,k.D+1)]
def fR(rs:List (List Int))(us:List Value)(M:aB):Prop:=us.length=rs.length/\ ∀(u:Nat) (r:List Int),rs[u]?=some r-> ∃x,us[u]?=some x/\aH r x M
theorem fR.ext{rs:List (List Int)}{us:List Value}{M M':aB}(hE: ∀id b,M.get id=some b->M'.get id=some b)(h:fR rs us M):fR rs us M':=
 ⟨h.1,fun u r hr=>by obtain⟨x,h1,h2⟩:=h.2 u r hr;exact⟨x,h1,AP.ext (R:=aH) hE h2⟩⟩
theorem fR.uniq{rs a0:List (List Int)}{us:List Value}{M:aB}(h:fR rs us M)(h':fR a0 us M):rs=a0:=by
 apply List.ext_getElem?
 intro u
 cases e:rs[u]? with
 |none=>
  have:=List.getElem?_eq_none_iff.1 e
  exact(List.getElem?_eq_none (by rw[<-h'.1,h.1];exact this)).symm
 |some r=>
  have hl:=(xAg.1 e).1
  have e':=xAe (show u<a0.length by rw[<-h'.1,h.1];exact hl)
  obtain⟨x,h1,h2⟩:=h.2 u r e
  obtain⟨y,k1,k2⟩:=h'.2 u _ e'
  rw[h1] at k1
  obtain rfl:=Option.some.inj k1
  rw[e',AP.uniq (R:=aH) h2 k2]
def BK.a(k:BK)(S:Value):Nat:=match S with| .slice (some ad) _ _=>ad.block|_=>k.B
def BK.hideS(k:BK)(S:Value):List (Nat×Nat):=(0,k.G)::(k.a S,k.a S+1)::k.hide
def fN(tA lo:Nat)(bad:List Nat)(arcs:List A7)(S:Value)(M:aB):Prop:=(S=eW/\arcs= [])\/ ∃b,S=aC b 0 arcs.length arcs.length/\arcs≠ []/\lo<=b/\b∉bad/\M.get b=some ⟨(arcs.map bM).flatten,tA,7,0,true⟩
theorem Sb(l:List A7):((l.map bM).flatten).length=l.length*7:=by
 induction l with
 |nil=>rfl
 |cons e l ih=>simp only [List.map_cons,List.flatten_cons,List.length_append,ih,List.length_cons];simp;omega
theorem fN.acc{tA lo:Nat}{bad:List Nat}{arcs:List A7}{S:Value}{M M0:aB}(h:fN tA lo bad arcs S M)(h0:M0.next<=lo):cR tA 7 M0 bad arcs.length ((arcs.map bM).flatten) S M:=by
 rcases h with⟨rfl,rfl⟩|⟨b,h1,h2,h3,h4,h5⟩
 ·exact .inl ⟨rfl,rfl,rfl⟩
 ·exact .inr ⟨b,h1,List.length_pos_iff.2 h2,Sb arcs,by omega,h4,h5⟩
theorem fN.of_acc{tA lo:Nat}{bad:List Nat}{arcs:List A7}{S:Value}{M M0:aB}{n:Nat}{cs:List Value}(h:cR tA 7 M0 bad n cs S M)(hn:n=arcs.length)(hc:cs=(arcs.map bM).flatten)(h0:lo<=M0.next):fN tA lo bad arcs S M:=by
 subst hn;subst hc
 rcases h with⟨rfl,h1,_⟩|⟨b,h1,h2,h3,h4,h5,h6⟩
 ·exact .inl ⟨rfl,List.eq_nil_of_length_eq_zero h1⟩
 ·exact .inr ⟨b,h1,List.length_pos_iff.1 h2,by omega,h5,h6⟩
theorem fN.rows{tA lo:Nat}{bad:List Nat}{arcs:List A7}{S:Value}{M:aB}(h:fN tA lo bad arcs S M)(hl:arcs.length<=9223372036854775807):dJ arcs S M:=by
 rcases h with⟨rfl,rfl⟩|⟨b,rfl,h2,h3,h4,h5⟩
 ·exact aJ.nil none
 ·exact aJ.of_blk' h5 rfl rfl (fun _ _=>rfl) hl
theorem fN.same{tA lo:Nat}{bad:List Nat}{arcs:List A7}{S:Value}{M M':aB}(hE: ∀id b,M.get id=some b->M'.get id=some b)(h:fN tA lo bad arcs S M):fN tA lo bad arcs S M':=by
 rcases h with h|⟨b,h1,h2,h3,h4,h5⟩
 ·exact .inl h
 ·exact .inr ⟨b,h1,h2,h3,h4,hE _ _ h5⟩
theorem Cw: ∀{l l':List A7},(l.map bM).flatten=(l'.map bM).flatten->l=l'
 | [],[],_=>rfl
 | [],_::_,h=>by simp [bM] at h
 |_::_,[],h=>by simp [bM] at h
 |x::l,y::l',h=>by
  simp only [List.map_cons,List.flatten_cons] at h
  have h1:=List.append_inj h (by simp [bM])
  rw[Vj.inj _ _ h1.1,Cw h1.2]
theorem fN.uniq{tA lo lo':Nat}{bad a1:List Nat}{arcs a0:List A7}{S:Value}{M:aB}(h:fN tA lo bad arcs S M)(k:fN tA lo' a1 a0 S M):arcs=a0:=by
 rcases h with⟨rfl,rfl⟩|⟨b,rfl,h2,h3,h4,h5⟩<;>rcases k with⟨k1,rfl⟩|⟨b',k1,k2,k3,k4,k5⟩
 ·rfl
 ·cases k1
 ·cases k1
 ·simp only [Value.slice.injEq,Option.some.injEq,Addr.mk.injEq,and_true] at k1
  obtain⟨rfl,_⟩:=k1
  rw[h5] at k5
  simp only [Option.some.injEq,aU.mk.injEq,and_true] at k5
  exact Cw k5
section
variable(tB tC tA tI:TypeId)(fA:FuncId)
structure cW(x:uS)(M:aB):Prop where
 gB:M.get x.k.B=some ⟨[i64 ((x.n:Nat):Int),x.ev,aC x.k.R 0 x.n (x.n+1),x.S,aC x.k.U 0 x.n (x.n+1),aC x.k.D 0 x.n (x.n+1),pt x.k.C 0,aC x.k.G 0 x.n (x.n+1)],tB,8,0,true⟩
 gC:M.get x.k.C=some ⟨[i64 ((x.n:Nat):Int),aC x.k.K 0 (x.n*x.n*5) (x.n*x.n*5+1),.func (.func fA) #[pt x.k.B 0] #[]],tC,3,0,true⟩
 gK:M.get x.k.K=some ⟨x.s.b.cur.map i64,3,1,0,true⟩
 gG:M.get x.k.G=some ⟨x.s.gone.map .bool,4,1,0,true⟩
 gR:M.get x.k.R=some ⟨x.s.rank.map i64,3,1,0,true⟩
 gU:M.get x.k.U=some ⟨x.us,tI,1,0,true⟩
 gD:M.get x.k.D=some ⟨x.ds,tI,1,0,true⟩
 acc:fN tA x.k.G x.k.ids x.s.b.arcs x.S M
 lo: ∀i∈x.k.ids,x.k.G<=i
 nd:x.k.ids.Nodup
 es:aS x.es x.ev (cI (x.k.hideS x.S) M)
 up:fR x.s.up x.us (cI (x.k.hideS x.S) M)
 down:fR x.s.down x.ds (cI (x.k.hideS x.S) M)
end
theorem Wc{k:BK}{S:Value}{id:Nat}:(¬aY (k.hideS S) id=true)↔(id≠k.a S/\id∉k.ids/\k.G<=id):=by
 unfold BK.hideS BK.hide BK.ids
 simp only [bR,oY,and_true,List.mem_cons,List.not_mem_nil,or_false,not_or]
 omega
theorem mD{k:BK}{S:Value}{M:aB}{id:Nat}{b:aU}:(cI (k.hideS S) M).get id=some b↔(id≠k.a S/\id∉k.ids/\k.G<=id)/\M.get id=some b:=by
 rw[bV,Wc]
def uS.own(x:uS)(id:Nat):Prop:=id=x.k.a x.S\/id∈x.k.ids
theorem iM{x:uS}{S':Value}{M M':aB}(hk: ∀id b,M.get id=some b-> ¬x.own id->M'.get id=some b)(hS:x.k.a S'=x.k.a x.S\/x.k.a S'=x.k.B\/M.next<=x.k.a S'): ∀id b,(cI (x.k.hideS x.S) M).get id=some b->(cI (x.k.hideS S') M').get id=some b:=fun id b hg=>by
 rw[mD] at hg⊢
 refine⟨⟨?_,hg.1.2⟩,hk id b hg.2 (fun hh=>hh.elim hg.1.1 hg.1.2.1)⟩
 have hlt:=aB.lt_of_get hg.2
 rcases hS with e|e|e
 ·rw[e];exact hg.1.1
 ·rw[e];exact fun h0=>hg.1.2.1 (by rw[h0];unfold BK.ids;simp)
 ·omega
section
variable{tB tC tA tI:TypeId}{fA:FuncId}
theorem Ca.hid{k:BK}{S:Value}{M M':aB}(h:Ca M M'): ∀id b,(cI (k.hideS S) M).get id=some b->(cI (k.hideS S) M').get id=some b:=fun id b hg=>by
 rw[mD] at hg⊢
 exact⟨hg.1,by rw[<-h id];exact hg.2⟩
theorem cW.same{x:uS}{M M':aB}(hs:Ca M M')(h:cW tB tC tA tI fA x M):cW tB tC tA tI fA x M':=by
 have e: ∀id b,M.get id=some b->M'.get id=some b:=fun id b hg=>by rw[<-hs id];exact hg
 exact⟨e _ _ h.gB,e _ _ h.gC,e _ _ h.gK,e _ _ h.gG,e _ _ h.gR,e _ _ h.gU,e _ _ h.gD,h.acc.same e,h.lo,h.nd,AP.ext (R:=aS) (hs.hid) h.es,h.up.ext hs.hid,h.down.ext hs.hid⟩
theorem xM{l l':List Int}(h:l.map i64=l'.map i64):l=l':=(List.map_inj_right (fun x y h=>by simpa [i64] using h)).1 h
theorem cW.uniq{x y:uS}{M:aB}(h:cW tB tC tA tI fA x M)(k:cW tB tC tA tI fA y M)(he:x.k.B=y.k.B):x=y:=by
 obtain⟨⟨B,C,K,G,R,U,D⟩,n,es,ev,S,⟨⟨arcs,cur⟩,gone,rank,up,down⟩,us,ds⟩:=x
 obtain⟨⟨B',C',K',G',R',U',D'⟩,n',es',ev',S',⟨⟨arcs',cur'⟩,a0,rank',up',down'⟩,us',ds'⟩:=y
 simp only at he
 subst he
 have e1:=h.gB;have e2:=k.gB
 simp only at e1 e2
 rw[e1] at e2
 simp only [Option.some.injEq,aU.mk.injEq,List.cons.injEq,Value.slice.injEq,Addr.mk.injEq,and_true,i64,Value.int.injEq,true_and,pt,Value.pointer.injEq] at e2
 obtain⟨hn,rfl,⟨rfl,_⟩,rfl,⟨rfl,_⟩,⟨rfl,_⟩,rfl,rfl,_⟩:=e2
 obtain rfl:n=n':=by omega
 have e1:=h.gC;have e2:=k.gC
 simp only at e1 e2
 rw[e1] at e2
 simp only [Option.some.injEq,aU.mk.injEq,List.cons.injEq,Value.slice.injEq,Addr.mk.injEq,and_true,true_and] at e2
 obtain rfl:=e2
 have e1:=h.gK;have e2:=k.gK
 simp only at e1 e2
 rw[e1] at e2
 simp only [Option.some.injEq,aU.mk.injEq,and_true] at e2
 obtain rfl:=xM e2
 have e1:=h.gG;have e2:=k.gG
 simp only at e1 e2
 rw[e1] at e2
 simp only [Option.some.injEq,aU.mk.injEq,and_true] at e2
 obtain rfl:gone=a0:=(List.map_inj_right (fun x y h=>by simpa using h)).1 e2
 have e1:=h.gR;have e2:=k.gR
 simp only at e1 e2
 rw[e1] at e2
 simp only [Option.some.injEq,aU.mk.injEq,and_true] at e2
 obtain rfl:=xM e2
 have e1:=h.gU;have e2:=k.gU
 simp only at e1 e2
 rw[e1] at e2
 simp only [Option.some.injEq,aU.mk.injEq,and_true] at e2
 obtain rfl:=e2
 have e1:=h.gD;have e2:=k.gD
 simp only at e1 e2
 rw[e1] at e2
 simp only [Option.some.injEq,aU.mk.injEq,and_true] at e2
 obtain rfl:=e2
 obtain rfl:=fN.uniq h.acc k.acc
 obtain rfl:=AP.uniq (R:=aS) h.es k.es
 obtain rfl:=h.up.uniq k.up
 obtain rfl:=h.down.uniq k.down
 rfl
def obB(tB tC tA tI:TypeId)(fA:FuncId){β:Type}(ar:β->List Value)(ok:uS->β->Prop)(R:uS->β->Value->Ba->Prop):OB (uS×β) where
 A:=fun x l M=>l=pt x.1.k.B 0::ar x.2/\cW tB tC tA tI fA x.1 M/\ok x.1 x.2
 lo:=fun x=>x.1.k.G
 own:=fun x id=>x.1.own id
 R:=fun x v M M'=> ∃S us ds s,cW tB tC tA tI fA {x.1 with S:=S,us:=us,ds:=ds,s:=s} M'/\(x.1.k.a S=x.1.k.a x.1.S\/x.1.k.a S=x.1.k.B\/M.next<=x.1.k.a S)/\R x.1 x.2 v s
class Ro {β:Type} (ar:β->List Value):Prop where
 inj: ∀{x y:β},ar x=ar y->x=y
instance{β:Type}{ar:β->List Value}{ok:uS->β->Prop}{R:uS->β->Value->Ba->Prop} [Ro ar]:Yt (obB tB tC tA tI fA ar ok R) where
 uniq:=fun{x y l M} h k=>by
  obtain⟨h1,h2,_⟩:=h
  obtain⟨k1,k2,_⟩:=k
  rw[h1] at k1
  simp only [List.cons.injEq,pt,Value.pointer.injEq,Option.some.injEq,Addr.mk.injEq,and_true] at k1
  obtain⟨e1,e2⟩:=k1
  have e3:=cW.uniq h2 k2 e1
  have e4:=Ro.inj e2
  exact Prod.ext e3 e4
 log:=fun hs h=>⟨h.1,h.2.1.same hs,h.2.2⟩
 res:=fun hn _ hs h=>by
  obtain⟨S,us,ds,s,h1,h2,h3⟩:=h
  exact⟨S,us,ds,s,h1.same hs,by rw[<-hn];exact h2,h3⟩
end
end Go.Am
end

noncomputable section
namespace Go.Am
open Go
set_option linter.unusedVariables false
def qR(tC:TypeId)(x:Nat×List Int)(v:Value)(M:aB):Prop:= ∃C K c cl,v=pt C 0/\M.get C=some ⟨[i64 ((x.1:Nat):Int),aC K 0 x.2.length c,cl],tC,3,0,true⟩/\M.get K=some ⟨x.2.map i64,3,1,0,true⟩
instance(tC:TypeId):AP (qR tC):=⟨fun{x y v M} ⟨C,K,c,cl,h1,h2,h3⟩ ⟨C',K',c',cl',k1,k2,k3⟩=>by
 rw[h1] at k1
 simp only [pt,Value.pointer.injEq,Option.some.injEq,Addr.mk.injEq,and_true] at k1
 subst k1
 rw[h2] at k2
 simp only [Option.some.injEq,aU.mk.injEq,List.cons.injEq,Value.slice.injEq,Addr.mk.injEq,and_true,i64,Value.int.injEq,true_and] at k2
 obtain⟨e1,⟨rfl,_⟩,_⟩:=k2
 rw[h3] at k3
 simp only [Option.some.injEq,aU.mk.injEq,and_true] at k3
 have e2:=xM k3
 obtain⟨a,b⟩:=x;obtain⟨a',b'⟩:=y
 simp only at e1 e2
 have e3:a=a':=by omega
 rw[e2,e3],fun hE ⟨C,K,c,cl,h1,h2,h3⟩=>⟨C,K,c,cl,h1,hE _ _ h2,hE _ _ h3⟩⟩
def Mw(tB:TypeId)(x:List A7)(v:Value)(M:aB):Prop:= ∃B c0 c1 c2 S c4 c5 c6 c7,v=pt B 0/\M.get B=some ⟨[c0,c1,c2,S,c4,c5,c6,c7],tB,8,0,true⟩/\dJ x S M
instance(tB:TypeId):AP (Mw tB):=⟨fun{x y v M} ⟨B,c0,c1,c2,S,c4,c5,c6,c7,h1,h2,h3⟩ ⟨B',d0,d1,d2,S',d4,d5,d6,d7,k1,k2,k3⟩=>by
 rw[h1] at k1
 simp only [pt,Value.pointer.injEq,Option.some.injEq,Addr.mk.injEq,and_true] at k1
 subst k1
 rw[h2] at k2
 simp only [Option.some.injEq,aU.mk.injEq,List.cons.injEq,and_true] at k2
 obtain⟨_,_,_,rfl,_⟩:=k2
 exact AP.uniq (R:=dJ) h3 k3,fun hE ⟨B,c0,c1,c2,S,c4,c5,c6,c7,h1,h2,h3⟩=>⟨B,c0,c1,c2,S,c4,c5,c6,c7,h1,hE _ _ h2,AP.ext (R:=dJ) hE h3⟩⟩
def Iw(tB:TypeId)(x:List E4)(v:Value)(M:aB):Prop:= ∃B c0 c1 c2 c3 c4 c5 c6 c7,v=pt B 0/\M.get B=some ⟨[c0,c1,c2,c3,c4,c5,c6,c7],tB,8,0,true⟩/\aS x c1 M
instance(tB:TypeId):AP (Iw tB):=⟨fun{x y v M} ⟨B,c0,c1,c2,c3,c4,c5,c6,c7,h1,h2,h3⟩ ⟨B',d0,d1,d2,d3,d4,d5,d6,d7,k1,k2,k3⟩=>by
 rw[h1] at k1
 simp only [pt,Value.pointer.injEq,Option.some.injEq,Addr.mk.injEq,and_true] at k1
 subst k1
 rw[h2] at k2
 simp only [Option.some.injEq,aU.mk.injEq,List.cons.injEq,and_true] at k2
 obtain⟨_,rfl,_⟩:=k2
 exact AP.uniq (R:=aS) h3 k3,fun hE ⟨B,c0,c1,c2,c3,c4,c5,c6,c7,h1,h2,h3⟩=>⟨B,c0,c1,c2,c3,c4,c5,c6,c7,h1,hE _ _ h2,AP.ext (R:=aS) hE h3⟩⟩
def Fo(a:A7)(v:Value)(_:aB):Prop:=v= .agg ⟨bM a⟩
instance:AP Fo:=⟨fun{x y _ _} h k=>by unfold Fo at h k;rw[h] at k;simp only [Value.agg.injEq,Array.mk.injEq] at k;exact Vj.inj _ _ k,fun _ h=>h⟩
theorem Wy{n:Nat}{f t m:Int}(hn:n<=60)(hf:0<=f/\f<n)(ht:0<=t/\t<n)(hm:0<=m/\m<5):
  IntKind.wrap .i64 (IntKind.wrap .i64 (IntKind.wrap .i64 (IntKind.wrap .i64 (f*((n:Nat):Int))+t)*5)+m)=dP n f t m:=by
 have h1:0<=f*(n:Int):=Int.mul_nonneg hf.1 (by omega)
 have h2:f*(n:Int)<=60*60:=Int.mul_le_mul (by omega) (by omega) (by omega) (by omega)
 rw[Go.Am.eG (i:=f*((n:Nat):Int)) (by omega) (by omega),Go.Am.eG (i:=f*((n:Nat):Int)+t) (by omega) (by omega),Go.Am.eG (i:=(f*((n:Nat):Int)+t)*5) (by omega) (by omega),Go.Am.eG (by omega) (by omega)]
 rfl
theorem jL{α:Type}{g:α->List Value}{w:Nat}{M:aB}{b o n c:Nat}{l:List α}(h:aJ g w M (.slice (some ⟨b,o,none⟩) n c) l)(hl:0<l.length):b<M.next:=by
 rcases h.at_ with⟨_,_,h0⟩|⟨b',o',c',blk,pre,post,h1,h2,_⟩
 ·omega
 ·simp only [Value.slice.injEq,Option.some.injEq,Addr.mk.injEq,and_true] at h1
  rw[show b=b' from h1.1.1]
  exact aB.lt_of_get h2
theorem yL{i:Int}(h0: -9223372036854775808<=i)(h1:i<9223372036854775808):IntKind.wrap .i64 i=i:=by
 simp [IntKind.wrap,IntKind.bits,IntKind.signed]
 split<;>omega
def Yg(es:List E4)(i:Int):E4:=match es[i.toNat]? with|some e=>e|none=>⟨0,0,0,0⟩
def sJ(arcs:List A7)(i:Int):A7:=match arcs[i.toNat]? with|some a=>a|none=>⟨0,0,0,0,0,0,0⟩
theorem Cr{es:List E4}{i:Int}{e:E4}(h:es[i.toNat]?=some e):Yg es i=e:=by unfold Yg;rw[h]
theorem qW{arcs:List A7}{i:Int}{a:A7}(h:arcs[i.toNat]?=some a):sJ arcs i=a:=by unfold sJ;rw[h]
theorem Ns{arcs:List A7}{i:Int}{a:A7}(h:arcs[i.toNat]?=some a):cU arcs i=a.c:=by unfold cU;rw[h];rfl
theorem Nt{es:List E4}{i:Int}{e:E4}(h:es[i.toNat]?=some e):dS es i=e.c:=by unfold dS;rw[h];rfl
structure LX(β:Type) where
 C:Nat
 K:Nat
 B:Nat
 n:Nat
 cur:List Int
 y:β
 a:A7
 num:Int
def iO{β:Type}(cost:β->Int->Int)(x:LX β):List Int:=bif dM (cost x.y) (aX x.cur (gO x.n x.a)) x.a.c then x.cur.set (gO x.n x.a) x.num else x.cur
def Qy{β:Type}(tC:TypeId)(fn:FuncId)(cost:β->Int->Int)(pC:β->Value->aB->Prop)(ok:β->Int->Prop):OB (LX β) where
 A:=fun x l M=>l= [pt x.C 0,.agg ⟨bM x.a⟩,i64 x.num]/\M.get x.C=some ⟨[i64 ((x.n:Nat):Int),aC x.K 0 (x.n*x.n*5) (x.n*x.n*5+1),.func (.func fn) #[pt x.B 0] #[]],tC,3,0,true⟩/\M.get x.K=some ⟨x.cur.map i64,3,1,0,true⟩/\pC x.y (pt x.B 0) (cI [(x.K,x.K+1)] M)/\x.C≠x.K/\
  (x.n<=60/\x.cur.length=x.n*x.n*5/\(0<=x.a.f/\x.a.f<x.n)/\(0<=x.a.t/\x.a.t<x.n)/\(0<=x.a.m/\x.a.m<5)/\(aX x.cur (gO x.n x.a)= -1\/ok x.y (aX x.cur (gO x.n x.a))))
 lo:=fun x=>x.K
 own:=fun x id=>id=x.K
 R:=fun x v _ M'=>v= .bool (dM (cost x.y) (aX x.cur (gO x.n x.a)) x.a.c)/\M'.get x.K=some ⟨(iO cost x).map i64,3,1,0,true⟩
instance{β:Type}(tC:TypeId)(fn:FuncId)(cost:β->Int->Int)(pC:β->Value->aB->Prop) [AP pC](ok:β->Int->Prop):Yt (Qy tC fn cost pC ok) where
 uniq:=fun{x y l M} h k=>by
  obtain⟨h1,h2,h3,h4,_⟩:=h
  obtain⟨k1,k2,k3,k4,_⟩:=k
  obtain⟨C,K,B,n,cur,z,a,num⟩:=x
  obtain⟨C',K',B',n',cur',z',a',num'⟩:=y
  simp only at h1 h2 h3 h4 k1 k2 k3 k4
  rw[h1] at k1
  simp only [List.cons.injEq,pt,Value.pointer.injEq,Option.some.injEq,Addr.mk.injEq,and_true,Value.agg.injEq,Array.mk.injEq,i64,Value.int.injEq,true_and] at k1
  obtain⟨rfl,ka,rfl⟩:=k1
  obtain rfl:a=a':=by cases a;cases a';simp only at ka;obtain⟨rfl,rfl,rfl,rfl,rfl,rfl,rfl⟩:=ka;rfl
  rw[h2] at k2
  simp only [Option.some.injEq,aU.mk.injEq,List.cons.injEq,Value.slice.injEq,Addr.mk.injEq,and_true,i64,Value.int.injEq,true_and,Value.func.injEq,pt,Array.mk.injEq,Value.pointer.injEq] at k2
  obtain⟨kn,⟨rfl,_⟩,rfl⟩:=k2
  obtain rfl:n=n':=by omega
  rw[h3] at k3
  simp only [Option.some.injEq,aU.mk.injEq,and_true] at k3
  obtain rfl:=xM k3
  obtain rfl:=AP.uniq (R:=pC) h4 k4
  rfl
 log:=fun{x l M M'} hs h=>by
  obtain⟨h1,h2,h3,h4,h5⟩:=h
  exact⟨h1,by rw[<-hs];exact h2,by rw[<-hs];exact h3,AP.ext (R:=pC) (fun id b hg=>by rw[bV] at hg⊢;exact⟨hg.1,by rw[<-hs id];exact hg.2⟩) h4,h5⟩
 res:=fun _ _ hs h=>⟨h.1,by rw[<-hs];exact h.2⟩
end Go.Am
end

noncomputable section
namespace Go.Am
open Go
set_option linter.unusedVariables false
variable{P:Program}
theorem BK.a_ne{k:BK}{S:Value}{id:Nat}(h:id≠k.a S): ∀m o c,S≠aC id o m c:=fun m o c e=>h (by rw[e];rfl)
theorem cR.turn{el:TypeId}{w n x:Nat}{M0 M M':aB}{bad:List Nat}{cs:List Value}{S:Value}(h:cR el w M0 bad n cs S M)(hx:x∈bad)(hk: ∀id k,M.get id=some k->id≠x->M'.get id=some k):cR el w M0 bad n cs S M':=by
 rcases h with h|⟨b,h1,h2,h3,h4,h5,h6⟩
 ·exact .inl h
 ·exact .inr ⟨b,h1,h2,h3,h4,h5,hk _ _ h6 (fun e=>h5 (e▸hx))⟩
theorem Ho{el:TypeId}{w n:Nat}{M0 M:aB}{bad:List Nat}{cs:List Value}{S:Value}{sT xT y bx o c:Nat}{blk:aU}{new:List Value}(h:cR el w M0 bad n cs S M)(hE:Ext M0 M)(hM:aA M)(hb: ∀x∈bad,x<M.next)(a1:Aj P el=false)(hs:P.underlying sT=some (.slice el))(hx:P.underlying xT=some (.slice el))(he:elemOf P el=some (w,y,true))(hw:0<w)(hy:y<=1024)(a0:Nat.beq w pA=false)(hn:n<1073741824)
  (hg:M.get bx=some blk) (ht:cP w (blk.cs.drop o)=some new) (hc:new.all Go.Am.isCell=true) (hl:new.length=w):
  ∃t S' M1,cX P [sT,xT] S (aC bx o 1 c) M=some ((bif t then 1 else 2),.val S',M1)/\Ext M0 M1/\aA M1/\cR el w M0 bad (n+1) (cs++new) S' M1/\(∀id b,M.get id=some b->id∈bad->M1.get id=some b)/\(∀id b,M.get id=some b->(∀m o c,S≠aC id o m c)->M1.get id=some b)/\ ∀k:BK,M.next<=k.a S':=by
 rcases h with⟨rfl,rfl,rfl⟩|⟨b,rfl,h2,h3,h4,h5,h6⟩
 ·have hm:dL ⟨new,el,w,0,true⟩=false:=by unfold dL;rw[a0];rfl
  obtain⟨b',M1,e1,e2,e3,e4,e5⟩:=bC hM ⟨new,el,w,0,true⟩ hm
  refine⟨true,aC b' 0 1 1,M1,?_,hE.trans e4,e5,.inr ⟨b',rfl,Nat.one_pos,by simp [hl],by have:=hE.next;omega,fun hh=>by have:=hb _ hh;omega,by simpa using e3⟩,fun id k g _=>e4.old g,fun id k g _=>e4.old g,fun k=>by show M.next<=b';omega⟩
  rw[<-e1,<-e2]
  exact append_nil hs hx he hw hy hg ht hc hl
 ·have hm:dL ⟨cs++new,el,w,0,true⟩=false:=by unfold dL;rw[a0];rfl
  obtain⟨b',M1,e1,e2,e3,e4,e5,e6⟩:=tO hE h4 hM ⟨cs++new,el,w,0,true⟩ hm
  have hlt:=aB.lt_of_get h6
  refine⟨false,aC b' 0 (n+1) (n+1),M1,?_,e4,e5,.inr ⟨b',rfl,Nat.succ_pos _,by rw[List.length_append,h3,hl,Nat.succ_mul],by have:=hE.next;omega,fun hh=>by have:=hb _ hh;omega,e3⟩,fun id k g hid=>(e6 id (fun e=>h5 (e▸hid)) (aB.lt_of_get g)).trans g,fun id k g hid=>(e6 id (fun e=>hid n 0 n (by rw[e])) (aB.lt_of_get g)).trans g,fun k=>by show M.next<=b';omega⟩
  rw[<-e1,<-e2]
  exact nI a1 hs hx he hw hy hn hg ht hc hl h6 h3 rfl rfl rfl rfl
theorem aAq{t elem:TypeId}{M:aB}{n:Nat}{z:Value}(hu:P.underlying t=some (.slice elem))(hz:mk1 P elem=some z)(hn:n<137438953472):
  bX P t (i64 ((n:Nat):Int)) (i64 ((n:Nat):Int)) M=some (1,.val (aC M.next 0 n (n+1)),M.alloc ⟨List.replicate n z,elem,1,0,true⟩):=by
 unfold mk1 at hz
 cases hi:P.info? elem with
 |none=>rw[hi] at hz;cases hz
 |some e=>
  rw[hi] at hz
  simp only at hz
  cases a0:e.zero with
  |none=>rw[a0] at hz;cases hz
  |some z0=>
   rw[a0] at hz
   simp only at hz
   cases hq:(flat z0&&isCell z0&&Nat.beq e.size 1&&Nat.ble e.bytes 1024)<;>rw[hq] at hz
   ·cases hz
   ·cases hz
    simp only [Bool.and_eq_true] at hq
    obtain⟨⟨⟨q1,q2⟩,q3⟩,q4⟩:=hq
    have h1:e.size=1:=xBa q3
    have hc:=cJ q2
    unfold bX
    have e1:decide ((0:Int)<=((n:Nat):Int))=true:=xAb (by omega)
    have e2:decide (((n:Nat):Int)<=((n:Nat):Int))=true:=xAb (Int.le_refl _)
    have e3:decide (((n:Nat):Int)<2^37)=true:=xAb (by omega)
    have e4:((n:Nat):Int).toNat=n:=rfl
    have e5:decide (((n:Nat):Int)=((n:Nat):Int))=true:=xAb rfl
    simp only [hu,hi,a0,q1,hc,List.all_cons,List.all_nil,q2,h1,List.length_cons,List.length_nil,e1,e2,e3,e4,e5,Md,made,nQ]
    have a1:e.bytes.ble 1024=true:=q4
    rw[a1]
    rfl
theorem Tx{t elem:TypeId}{M:aB}{n:Nat}{z:Value}(hM:aA M)(hu:P.underlying t=some (.slice elem))(hz:mk1 P elem=some z)(hn:n<137438953472):
  ∃b M1,M.next=b/\(∀H,bX P t (i64 ((n:Nat):Int)) (i64 ((n:Nat):Int)) (aB.mk M.blks M.next H M.log)=some (1,.val (aC b 0 n (n+1)),aB.mk M1.blks M1.next H M1.log))/\M1.get b=some ⟨List.replicate n z,elem,1,0,true⟩/\Ext M M1/\aA M1/\M1.log=M.log:=
 ⟨_,M.alloc ⟨List.replicate n z,elem,1,0,true⟩,rfl,fun H=>aAq (M:=aB.mk M.blks M.next H M.log) hu hz hn,mQ hM _ rfl,Ext.alloc M _,hM.ext (Ext.alloc M _),rfl⟩
theorem Ie{x y:Nat}(h:x≠y): ¬aY [(y,y+1)] x=true:=by
 simp only [bR,oY,and_true];omega
theorem Og{b id:Nat}(h: ¬(b<=id/\id<b+1)):id≠b:=fun e=>h (by omega)
theorem nd7i{a b c d e f g:Nat}(a0:a≠b)(a1:a≠c)(a2:a≠d)(a3:a≠e)(a4:a≠f)(a5:a≠g)(a6:b≠c)(a7:b≠d)(a8:b≠e)(a9:b≠f)(b0:b≠g)(b1:c≠d)(b2:c≠e)(b3:c≠f)(b4:c≠g)(b5:d≠e)(b6:d≠f)(b7:d≠g)(b8:e≠f)(b9:e≠g)(c0:f≠g): [a,b,c,d,e,f,g].Nodup:=by
 simp only [List.nodup_cons,List.mem_cons,List.not_mem_nil,or_false,not_or,List.nodup_nil,and_true,not_false_eq_true]
 exact⟨⟨a0,a1,a2,a3,a4,a5⟩,⟨a6,a7,a8,a9,b0⟩,⟨b1,b2,b3,b4⟩,⟨b5,b6,b7⟩,⟨b8,b9⟩,c0⟩
theorem nd7{a b c d e f g:Nat}(h: [a,b,c,d,e,f,g].Nodup):a≠b/\a≠c/\a≠d/\a≠e/\a≠f/\a≠g/\b≠c/\b≠d/\b≠e/\b≠f/\b≠g/\c≠d/\c≠e/\c≠f/\c≠g/\d≠e/\d≠f/\d≠g/\e≠f/\e≠g/\f≠g:=by
 refine⟨?_,?_,?_,?_,?_,?_,?_,?_,?_,?_,?_,?_,?_,?_,?_,?_,?_,?_,?_,?_,?_⟩<;>(intro hh;subst hh;simp at h)
theorem Kc{tA K:Nat}{M0 M:aB}{bad:List Nat}{arcs:List A7}{S:Value}(h:cR tA 7 M0 bad arcs.length ((arcs.map bM).flatten) S M)(hx:K∈bad)(hl:arcs.length<=9223372036854775807):dJ arcs S (cI [(K,K+1)] M):=by
 rcases h with⟨rfl,h0,_⟩|⟨b,rfl,h2,h3,h4,h5,h6⟩
 ·rw[List.eq_nil_of_length_eq_zero h0];exact aJ.nil none
 ·exact aJ.of_blk' (bV.2 ⟨by simp only [bR,oY,and_true];intro hh;exact h5 (by rw[show b=K by omega];exact hx),h6⟩) rfl rfl (fun _ _=>rfl) hl
theorem fN.form{tA lo:Nat}{bad:List Nat}{arcs:List A7}{S:Value}{M:aB}(h:fN tA lo bad arcs S M): ∃a c,S= .slice a arcs.length c/\(a.isNone=true->arcs.length=0/\c=0):=by
 rcases h with⟨rfl,rfl⟩|⟨b,rfl,_⟩
 ·exact⟨none,0,rfl,fun _=>⟨rfl,rfl⟩⟩
 ·exact⟨_,_,rfl,fun h=>by cases h⟩
section
variable{tB tC tA tI:TypeId}{fA:FuncId}
theorem cW.next{x:uS}{M M':aB}(h:cW tB tC tA tI fA x M)(hk: ∀id b,M.get id=some b-> ¬x.own id->M'.get id=some b){S:Value}{s:Ba}{us ds:List Value}
  (hS:x.k.a S=x.k.a x.S\/x.k.a S=x.k.B\/M.next<=x.k.a S)
  (gB:M'.get x.k.B=some ⟨[i64 ((x.n:Nat):Int),x.ev,aC x.k.R 0 x.n (x.n+1),S,aC x.k.U 0 x.n (x.n+1),aC x.k.D 0 x.n (x.n+1),pt x.k.C 0,aC x.k.G 0 x.n (x.n+1)],tB,8,0,true⟩)
  (gC:M'.get x.k.C=some ⟨[i64 ((x.n:Nat):Int),aC x.k.K 0 (x.n*x.n*5) (x.n*x.n*5+1),.func (.func fA) #[pt x.k.B 0] #[]],tC,3,0,true⟩)
  (gK:M'.get x.k.K=some ⟨s.b.cur.map i64,3,1,0,true⟩) (gG:M'.get x.k.G=some ⟨s.gone.map .bool,4,1,0,true⟩) (gR:M'.get x.k.R=some ⟨s.rank.map i64,3,1,0,true⟩)
  (gU:M'.get x.k.U=some ⟨us,tI,1,0,true⟩) (gD:M'.get x.k.D=some ⟨ds,tI,1,0,true⟩) (acc:fN tA x.k.G x.k.ids s.b.arcs S M')
  (a1:fR s.up us (cI (x.k.hideS S) M')) (a0:fR s.down ds (cI (x.k.hideS S) M')):cW tB tC tA tI fA {x with S:=S,s:=s,us:=us,ds:=ds} M':=
 ⟨gB,gC,gK,gG,gR,gU,gD,acc,h.lo,h.nd,AP.ext (R:=aS) (iM (x:=x) hk hS) h.es,a1,a0⟩
theorem cW.old{x:uS}{M M':aB}(h:cW tB tC tA tI fA x M)(e: ∀id b,M.get id=some b->M'.get id=some b):cW tB tC tA tI fA x M':=by
 have e2: ∀id b,(cI (x.k.hideS x.S) M).get id=some b->(cI (x.k.hideS x.S) M').get id=some b:=fun id b hg=>by rw[mD] at hg⊢;exact⟨hg.1,e _ _ hg.2⟩
 exact⟨e _ _ h.gB,e _ _ h.gC,e _ _ h.gK,e _ _ h.gG,e _ _ h.gR,e _ _ h.gU,e _ _ h.gD,h.acc.same e,h.lo,h.nd,AP.ext (R:=aS) e2 h.es,h.up.ext e2,h.down.ext e2⟩
theorem cW.gGlt{x:uS}{M:aB}(h:cW tB tC tA tI fA x M):x.k.G<M.next:=aB.lt_of_get h.gG
theorem cW.own_lt{x:uS}{M:aB}(h:cW tB tC tA tI fA x M): ∀id,(id=x.k.a x.S\/id∈x.k.ids)->id<M.next:=by
 have hi: ∀id∈x.k.ids,id<M.next:=by
  intro id hid
  simp only [BK.ids,List.mem_cons,List.not_mem_nil,or_false] at hid
  rcases hid with rfl|rfl|rfl|rfl|rfl|rfl|rfl
  ·exact aB.lt_of_get h.gB
  ·exact aB.lt_of_get h.gC
  ·exact aB.lt_of_get h.gK
  ·exact aB.lt_of_get h.gG
  ·exact aB.lt_of_get h.gR
  ·exact aB.lt_of_get h.gU
  ·exact aB.lt_of_get h.gD
 rintro id (rfl|hid)
 ·rcases h.acc with⟨h1,_⟩|⟨b,h1,_,_,_,h2⟩
  ·rw[h1];exact aB.lt_of_get h.gB
  ·rw[h1];exact aB.lt_of_get h2
 ·exact hi id hid
theorem Br{β:Type}{R:β->Value->aB->Prop} [AP R]{k:BK}{S:Value}{y:β}{v:Value}{M:aB}{n0 N:Nat}(a0: ∀id,(id=k.a S\/id∈k.ids)->id<n0)(hn:n0<=N)(h:R y v (cI [(0,N)] M)):R y v (cI (k.hideS S) M):=AP.ext (fun id b hg=>by
 rw[bV] at hg
 have h1:=hg.1
 simp only [bR,oY,and_true] at h1
 rw[mD]
 exact⟨⟨fun e=>by have:=a0 id (.inl e);omega,fun e=>by have:=a0 id (.inr e);omega,by have:=a0 k.G (.inr (by simp [BK.ids]));omega⟩,hg.2⟩) h
theorem Wf{β:Type}{R:β->Value->aB->Prop} [AP R]{y:β}{v:Value}{M M':aB}{H:List (Nat×Nat)}{x:Nat}(h:R y v (cI H M))(hx:M.next<=x)(hE:Ext M M'):R y v (cI ((x,x+1)::H) M'):=AP.ext (fun id b hg=>by
 rw[bV] at hg⊢
 have hl:=aB.lt_of_get hg.2
 exact⟨by rw[bR];exact⟨by omega,hg.1⟩,hE.old hg.2⟩) h
theorem fR.none{n:Nat}{M:aB}:fR (List.replicate n []) (List.replicate n eW) M:=by
 refine⟨by simp,fun u r hr=> ?_⟩
 rw[List.getElem?_replicate] at hr
 split at hr
 ·rename_i hu
  obtain rfl:=Option.some.inj hr
  exact⟨eW,by rw[List.getElem?_replicate,if_pos hu],aJ.nil Option.none⟩
 ·cases hr
theorem fR.set{rs:List (List Int)}{us:List Value}{M:aB}{v:Nat}{r:List Int}{x:Value}(h:fR rs us M)(hx:aH r x M):fR (rs.set v r) (us.set v x) M:=by
 refine⟨by simpa using h.1,fun u q hq=> ?_⟩
 rw[List.getElem?_set] at hq⊢
 by_cases e:v=u
 ·rw[if_pos e] at hq⊢
  by_cases hl:v<rs.length
  ·rw[if_pos hl] at hq
   obtain rfl:=Option.some.inj hq
   exact⟨x,by rw[if_pos (by rw[h.1];exact hl)],hx⟩
  ·rw[if_neg hl] at hq;cases hq
 ·rw[if_neg e] at hq⊢
  exact h.2 u q hq
theorem rH{l:List Value}{v:Nat}{x:Value}(h:v<l.length):splice l (0+(((v:Nat):Int):Int).toNat*1) [x]=l.set v x:=by
 rw[Nat.zero_add,Nat.mul_one,Int.toNat_natCast,gM _ _ _ h]
theorem nJ{t:TypeId}{a:Addr}{v:Value}{M M1:aB}(h:eK P t a v M=some M1):M1.next=M.next:=by
 unfold eK at h
 split at h
 ·rename_i b i _ _
  cases hc:(Nat.beq v.cells.toList.length i.size&&v.cells.toList.all isCell&&Nat.ble b.wf a.off&&Nat.ble (a.off+v.cells.toList.length) b.cs.length)<;>rw[hc] at h
  ·cases h
  ·cases h;rfl
 ·cases h
theorem Wb{m:List Bool}{v:Nat}(h:v<m.length):splice (m.map Value.bool) (0+(((v:Nat):Int):Int).toNat*1) [.bool true]=(m.set v true).map Value.bool:=by
 rw[rH (by simpa using h),List.map_set]
theorem Wg{m:List Int}{v:Nat}{x:Int}(h:v<m.length):splice (m.map i64) (0+(((v:Nat):Int):Int).toNat*1) [i64 x]=(m.set v x).map i64:=by
 rw[rH (by simpa using h),List.map_set]
structure sI(k:BK)(S0:Value)(Ms:aB)(S:Value)(M:aB):Prop where
 keep: ∀id b,Ms.get id=some b-> ¬(id=k.a S0\/id∈k.ids)->M.get id=some b
 a:k.a S=k.a S0\/k.a S=k.B\/Ms.next<=k.a S
 next:Ms.next<=M.next
theorem sI.refl(k:BK)(S:Value)(M:aB):sI k S M S M:=⟨fun _ _ h _=>h,.inl rfl,Nat.le_refl _⟩
theorem sI.step{k:BK}{S0 S S':Value}{Ms M M':aB}(h:sI k S0 Ms S M)(hk: ∀id b,M.get id=some b-> ¬(id=k.a S\/id∈k.ids)->M'.get id=some b)(hS:k.a S'=k.a S\/k.a S'=k.B\/M.next<=k.a S')(hn:M.next<=M'.next):sI k S0 Ms S' M':=by
 refine⟨fun id b hg ho=>hk id b (h.keep id b hg ho) (fun hh=> ?_),?_,Nat.le_trans h.next hn⟩
 ·rcases hh with hh|hh
  ·have hlt:=aB.lt_of_get hg
   rcases h.a with e|e|e
   ·exact ho (.inl (hh.trans e))
   ·exact ho (.inr (by rw[hh,e];simp [BK.ids]))
   ·omega
  ·exact ho (.inr hh)
 ·rcases hS with e|e|e
  ·rw[e];exact h.a
  ·exact .inr (.inl e)
  ·exact .inr (.inr (Nat.le_trans h.next e))
theorem sI.hids{k:BK}{S0 S:Value}{Ms M:aB}(h:sI k S0 Ms S M): ∀id b,(cI (k.hideS S0) Ms).get id=some b->(cI (k.hideS S) M).get id=some b:=fun id b hg=>by
 rw[mD] at hg⊢
 have hlt:=aB.lt_of_get hg.2
 refine⟨⟨?_,hg.1.2⟩,h.keep id b hg.2 (fun hh=>hh.elim hg.1.1 hg.1.2.1)⟩
 rcases h.a with e|e|e
 ·rw[e];exact hg.1.1
 ·rw[e];exact fun h0=>hg.1.2.1 (by rw[h0];simp [BK.ids])
 ·omega
end
end Go.Am
end

noncomputable section
namespace Go.Am
open Go
set_option linter.unusedVariables false
theorem pD{l:List E4}{d i:Nat}{v:Int}:v∈mW l d i↔ ∃k,k<i/\v=((k:Nat):Int)/\Al l ((k:Nat):Int)=false/\qU l ((k:Nat):Int)=d:=by
 unfold mW
 simp only [List.mem_filterMap,List.mem_range]
 constructor
 ·rintro⟨k,h1,h2⟩
  split at h2
  ·rename_i h;exact⟨k,h1,(Option.some.inj h2).symm,h.1,h.2⟩
  ·cases h2
 ·rintro⟨k,h1,h2,h3,h4⟩
  exact⟨k,h1,by rw[if_pos ⟨h3,h4⟩,h2]⟩
theorem Of{n:Nat}{l:List E4}(h:fC ((n:Nat):Int) l=true){v:Int}:v∈bW n l↔ ∃k,k<n/\v=((k:Nat):Int)/\Al l ((k:Nat):Int)=false:=by
 rw[Lq h]
 unfold Om nB
 simp only [List.mem_flatten,List.mem_map,List.mem_range]
 constructor
 ·rintro⟨_,⟨d,_,rfl⟩,hv⟩
  obtain⟨k,h1,h2,h3,_⟩:=pD.1 hv
  exact⟨k,h1,h2,h3⟩
 ·rintro⟨k,h1,h2,h3⟩
  refine⟨_,⟨qU l ((k:Nat):Int),?_,rfl⟩,pD.2 ⟨k,h1,h2,h3,rfl⟩⟩
  have:=Gy l ((k:Nat):Int)
  omega
theorem iZ{n:Nat}{l:List E4}(h:fC ((n:Nat):Int) l=true): ∀v∈bW n l,0<=v/\v<n:=fun v hv=>by
 obtain⟨k,h1,rfl,_⟩:=(Of h).1 hv
 omega
theorem Jf(l:List E4)(d i:Nat):(mW l d i).Nodup:=by
 induction i with
 |zero=>simp [mW]
 |succ i ih=>
  rw[Lz]
  refine List.nodup_append.2 ⟨ih,by split<;>simp,fun a ha b hb=> ?_⟩
  obtain⟨k,h1,rfl,_⟩:=pD.1 ha
  split at hb
  ·rw[List.mem_singleton.1 hb];omega
  ·cases hb
theorem Fm(l:List E4)(n d:Nat):(nB l n d).Nodup:=by
 induction d with
 |zero=>simp [nB]
 |succ d ih=>
  rw[xR]
  refine List.nodup_append.2 ⟨ih,Jf l d n,fun a ha b hb=> ?_⟩
  obtain⟨k,h1,rfl,_,h4⟩:=pD.1 hb
  unfold nB at ha
  simp only [List.mem_flatten,List.mem_map,List.mem_range] at ha
  obtain⟨_,⟨d',hd',rfl⟩,ha⟩:=ha
  obtain⟨k',_,rfl,_,a0⟩:=pD.1 ha
  intro e
  rw[e] at a0
  omega
theorem sA{n:Nat}{l:List E4}(h:fC ((n:Nat):Int) l=true):(bW n l).Nodup:=by
 rw[Lq h];exact Fm l n _
theorem rD: ∀{n:Nat} {l:List Int},l.Nodup->(∀v∈l,0<=v/\v<((n:Nat):Int))->l.length<=n:=by
 intro n
 induction n with
 |zero=>intro l _ h2;cases l with|nil=>simp|cons a l=>have:=h2 a (List.mem_cons_self ..);omega
 |succ n ih=>
  intro l h1 h2
  have h3:=ih (h1.erase ((n:Nat):Int)) (fun v hv=>by
   have hm:=(h1.mem_erase_iff).1 hv
   have:=h2 v hm.2
   have:=hm.1
   omega)
  have:=List.length_erase (a:=((n:Nat):Int)) (l:=l)
  split at this<;>omega
theorem rZ{n:Nat}{l:List E4}(h:fC ((n:Nat):Int) l=true):(bW n l).length<=n:=rD (sA h) (iZ h)
theorem Wz{i k:Nat}(h:i<=k):(2:Int)^i<=2^k:=by
 have h1:=Nat.pow_le_pow_right (n:=2) (by omega) h
 have e: ∀j:Nat,(((2:Nat)^j:Nat):Int)=(2:Int)^j:=fun j=>by push_cast;rfl
 rw[<-e i,<-e k]
 exact Int.ofNat_le.2 h1
theorem sI.trans{k:BK}{S0 S1 S2:Value}{Ms M M':aB}(h:sI k S0 Ms S1 M)(h2:sI k S1 M S2 M'):sI k S0 Ms S2 M':=h.step h2.keep h2.a h2.next
theorem Ext.over{b:Nat}{M0 M M':aB}(X:Ext M0 M)(hb:M0.next<=b)(a0:b<=M.next)(h:Ext (Go.Am.cut b M) M'):Ext M0 M':=by
 obtain⟨L,k1,k2⟩:=h.log
 obtain⟨L1,j1,j2⟩:=X.log
 refine⟨Nat.le_trans hb h.next,h.hide.trans X.hide,fun id hid=> ?_,L++L1,?_,fun t ht=> ?_⟩
 ·rw[h.get id (xAf hid hb),vV a0 (xAf hid hb)];exact X.get id hid
 ·rw[k1];show L++M.log=_;rw[j1,List.append_assoc]
 ·rcases List.mem_append.1 ht with ht|ht
  ·exact Nat.le_trans hb (k2 t ht)
  ·exact j2 t ht
theorem cW.own_ge{tB tC tA tI:TypeId}{fA:FuncId}{x:uS}{M:aB}(h:cW tB tC tA tI fA x M): ∀id,(id=x.k.a x.S\/id∈x.k.ids)->x.k.G<=id:=by
 rintro id (rfl|hid)
 ·rcases h.acc with⟨h1,_⟩|⟨b,h1,_,h3,_⟩
  ·rw[h1];exact h.lo _ (by unfold BK.ids BK.a;simp)
  ·rw[h1];exact h3
 ·exact h.lo id hid
structure IX where
 n:Nat
 es:List E4
 rank:List Int
 arcs:List A7
 up:List (List Int)
 down:List (List Int)
def pJ(x:IX)(v:Value)(M:aB):Prop:= ∃a b c d e,v= .agg ⟨[i64 ((x.n:Nat):Int),a,b,c,d,e]⟩/\aS x.es a M/\aH x.rank b M/\dJ x.arcs c M/\aW x.up d M/\aW x.down e M
instance:AP pJ:=⟨fun{x y _ _} ⟨a,b,c,d,e,h1,h2,h3,h4,h5,h6⟩ ⟨a',b',c',d',e',k1,k2,k3,k4,k5,k6⟩=>by
 rw[h1] at k1
 simp only [Value.agg.injEq,Array.mk.injEq,List.cons.injEq,and_true] at k1
 obtain⟨e0,rfl,rfl,rfl,rfl,rfl⟩:=k1
 have e1:=AP.uniq (R:=aS) h2 k2;have e2:=AP.uniq (R:=aH) h3 k3;have e3:=AP.uniq (R:=dJ) h4 k4;have e4:=AP.uniq (R:=aW) h5 k5;have e5:=AP.uniq (R:=aW) h6 k6
 have e6:x.n=y.n:=by simp only [i64,Value.int.injEq,true_and] at e0;omega
 obtain⟨x1,x2,x3,x4,x5,x6⟩:=x;obtain⟨y1,y2,y3,y4,y5,y6⟩:=y
 simp only at e1 e2 e3 e4 e5 e6
 rw[e1,e2,e3,e4,e5,e6],fun hE ⟨a,b,c,d,e,h1,h2,h3,h4,h5,h6⟩=>⟨a,b,c,d,e,h1,AP.ext (R:=aS) hE h2,AP.ext (R:=aH) hE h3,AP.ext (R:=dJ) hE h4,AP.ext (R:=aW) hE h5,AP.ext (R:=aW) hE h6⟩⟩
def Tg(n:Nat)(es:List E4)(s:Ba):IX:=⟨n,es,s.rank,s.b.arcs,s.up,s.down⟩
def Kt(x:Nat×List E4):IX:=Tg x.1 x.2 (iH x.1 x.2 (bW x.1 x.2))
section
variable{tB tC tA tI:TypeId}{fA:FuncId}
theorem fR.rowss{rs:List (List Int)}{us:List Value}{M M':aB}{U c:Nat}{q:Bool}{t:TypeId}{wf:Nat}(hE: ∀id b,M.get id=some b->M'.get id=some b)(h:fR rs us M)(g:M'.get U=some ⟨us,t,1,wf,q⟩):aW rs (aC U 0 rs.length c) M':=
 ⟨U,c,_,rfl,g,rfl,h.1,fun u r hr=>by obtain⟨x,h1,h2⟩:=h.2 u r hr;exact⟨x,h1,AP.ext (R:=aH) hE h2⟩⟩
theorem fN.new{tA lo:Nat}{bad:List Nat}{arcs:List A7}{S:Value}{M:aB}(h:fN tA lo bad arcs S M)(hl:arcs.length<=9223372036854775807):dJ arcs S (hid lo M):=by
 rcases h with⟨rfl,rfl⟩|⟨b,rfl,h2,h3,h4,h5⟩
 ·exact aJ.nil none
 ·exact aJ.of_blk' (jJ h3 h5) rfl rfl (fun _ _=>rfl) hl
theorem cW.ix{x:uS}{M:aB}(h:cW tB tC tA tI fA x M)(hr:x.s.rank.length=x.n)(hu:x.s.up.length=x.n)(hd:x.s.down.length=x.n)(hl:x.s.b.arcs.length<=9223372036854775807)(hn:x.n<=60):
  pJ (Tg x.n x.es x.s) (.agg ⟨[i64 ((x.n:Nat):Int),x.ev,aC x.k.R 0 x.n (x.n+1),x.S,aC x.k.U 0 x.n (x.n+1),aC x.k.D 0 x.n (x.n+1)]⟩) (hid x.k.G M):=by
 have hh: ∀id b,(cI (x.k.hideS x.S) M).get id=some b->(hid x.k.G M).get id=some b:=fun id b hg=>jJ (mD.1 hg).1.2.2 (mD.1 hg).2
 have gU:(hid x.k.G M).get x.k.U=_:=jJ (h.lo _ (by simp [BK.ids])) h.gU
 have gD:(hid x.k.G M).get x.k.D=_:=jJ (h.lo _ (by simp [BK.ids])) h.gD
 have gR:(hid x.k.G M).get x.k.R=_:=jJ (h.lo _ (by simp [BK.ids])) h.gR
 refine⟨_,_,_,_,_,rfl,AP.ext (R:=aS) hh h.es,?_,h.acc.new hl,?_,?_⟩
 ·exact aJ.of_blk' gR hr (xJ x.s.rank).symm (fun _ _=>rfl) (by show x.s.rank.length<=_;omega)
 ·have:=fR.rowss (c:=x.n+1) hh h.up gU;rw[hu] at this;exact this
 ·have:=fR.rowss (c:=x.n+1) hh h.down gD;rw[hd] at this;exact this
end
end Go.Am
end

noncomputable section
namespace Go.Am
open Go
set_option linter.unusedVariables false
theorem rW{n:Nat}{l:List E4}(h:fC ((n:Nat):Int) l=true):iQ n l:=fun e he=>by
 obtain⟨_,_,_,h4⟩:=fY h
 obtain⟨h5,h6,h7,h8,h9⟩:=h4 e he
 simp only [fC,Bool.and_eq_true,List.all_eq_true] at h
 have:=h.2 e he
 simp only [iI,Bool.and_eq_true,Gd,decide_eq_true_eq] at this
 exact⟨⟨h5,h6⟩,⟨h7,h8⟩,h9,this.1.2,this.2⟩
theorem lF(n:Nat)(s:Ba)(v:Nat):(eH n s v).b=s.b/\(eH n s v).gone=s.gone/\(eH n s v).rank=s.rank/\(eH n s v).down=s.down/\(eH n s v).up.length=s.up.length:=by
 induction v with
 |zero=>exact⟨rfl,rfl,rfl,rfl,rfl⟩
 |succ v ih=>
  unfold eH
  cases cH (eH n s v).gone v
  ·obtain⟨h1,h2,h3,h4,h5⟩:=ih
   exact⟨h1,h2,h3,h4,by rw[cond_false];simpa using h5⟩
  ·exact ih
theorem zJ{n:Nat}{es:List E4}{l:List Int}(a0:iQ n es)(hl: ∀v∈l,0<=v/\v<n)(hll:l.length<=n)(hn:n<=24):(iH n es l).b.arcs.length<400000/\(iH n es l).rank.length=n/\(iH n es l).up.length=n/\(iH n es l).down.length=n/\(iH n es l).gone.length=n:=by
 obtain⟨h1,h2,h3,h4,h5⟩:=lF n (cV n es l l.length) n
 have h:=HG.go a0 hl l.length (Nat.le_refl _)
 unfold iH
 rw[h1,h2,h3,h4,h5]
 have e3:l.length*(25*n*n)<=24*(25*24*24):=Nat.mul_le_mul (by omega) (Nat.mul_le_mul (Nat.mul_le_mul (Nat.le_refl _) hn) hn)
 have e4:n*n*5<=24*24*5:=Nat.mul_le_mul_right _ (Nat.mul_le_mul hn hn)
 have:=h.len
 exact⟨by omega,h.rank,h.up,h.down,h.gone⟩
end Go.Am
end
