/-
  Package hier: each of its laws for every argument; no conditions. The last text states which.
-/
import Derived.Test.YtdaglldahidmbaaGAmLoop
import Derived.Test.YtdaglldahidmbaaAmE
set_option linter.unusedVariables false
set_option linter.unusedSimpArgs false
noncomputable section
namespace Go.Am
open Go
def Ac(a b:Addr):Bool:=Nat.beq a.block b.block&&Nat.beq a.off b.off&&a.spot.isNone&&b.spot.isNone
mutual
def Fh:Value->Value->Bool
 | .bool a,v=>match v with| .bool b=>a==b|_=>false
 | .int k a,v=>match v with| .int k' b=>decide (k=k')&&decide (a=b)|_=>false
 | .string a,v=>match v with| .string b=>decide (a=b)|_=>false
 | .slice none l c,v=>match v with| .slice none l' c'=>Nat.beq l l'&&Nat.beq c c'|_=>false
 | .slice (some a) l c,v=>match v with| .slice (some b) l' c'=>Ac a b&&Nat.beq l l'&&Nat.beq c c'|_=>false
 | .pointer none,v=>match v with| .pointer none=>true|_=>false
 | .pointer (some a),v=>match v with| .pointer (some b)=>Ac a b|_=>false
 | .agg x,v=>match v with| .agg y=>vaEq x y.toList|_=>false
 | .tuple x,v=>match v with| .tuple y=>vaEq x y.toList|_=>false
 |_,_=>false
def vaEq:Array Value->List Value->Bool
 |⟨x⟩,y=>Cx x y
def Cx:List Value->List Value->Bool
 | [],m=>match m with| []=>true|_=>false
 |a::l,m=>match m with|b::m=>Fh a b&&Cx l m| []=>false
end
theorem Ea{a b:Addr}(h:Ac a b=true):a=b:=by
 unfold Ac at h
 simp only [Bool.and_eq_true,Nat.beq_eq,Option.isNone_iff_eq_none] at h
 obtain⟨a1,a2,a3⟩:=a
 obtain⟨b1,b2,b3⟩:=b
 obtain⟨⟨⟨h1,h2⟩,h3⟩,h4⟩:=h
 simp only at h1 h2 h3 h4
 subst h1 h2 h3 h4
 rfl
mutual
theorem Yz: ∀(a b:Value),Fh a b=true->a=b
 | .bool a,b,h=>by cases b<;>simp_all [Fh]
 | .int k a,b,h=>by cases b<;>simp_all [Fh]
 | .string a,b,h=>by cases b<;>simp_all [Fh]
 | .slice none l c,b,h=>by
  cases b<;>simp only [Fh] at h<;>try cases h
  rename_i a l' c'
  cases a<;>simp_all
 | .slice (some a) l c,b,h=>by
  cases b<;>simp only [Fh] at h<;>try cases h
  rename_i b l' c'
  cases b with
  |none=>cases h
  |some b=>
   simp only [Bool.and_eq_true,Nat.beq_eq] at h
   rw[Ea h.1.1,h.1.2,h.2]
 | .pointer none,b,h=>by
  cases b<;>simp only [Fh] at h<;>try cases h
  rename_i a
  cases a<;>simp_all
 | .pointer (some a),b,h=>by
  cases b<;>simp only [Fh] at h<;>try cases h
  rename_i b
  cases b with
  |none=>cases h
  |some b=>rw[Ea h]
 | .agg ⟨x⟩,b,h=>by
  cases b<;>simp only [Fh] at h<;>try cases h
  rename_i y
  obtain⟨y⟩:=y
  have:=wT x y h
  rw[this]
 | .tuple ⟨x⟩,b,h=>by
  cases b<;>simp only [Fh] at h<;>try cases h
  rename_i y
  obtain⟨y⟩:=y
  have:=wT x y h
  rw[this]
 | .float _ _,b,h=>by simp [Fh] at h
 | .complex _ _ _,b,h=>by simp [Fh] at h
 | .map _,b,h=>by simp [Fh] at h
 | .chan _,b,h=>by simp [Fh] at h
 | .func _ _ _,b,h=>by simp [Fh] at h
 | .nilFunc,b,h=>by simp [Fh] at h
 | .iface _ _,b,h=>by simp [Fh] at h
 | .nilIface,b,h=>by simp [Fh] at h
theorem wT: ∀(a b:List Value),Cx a b=true->a=b
 | [],b,h=>by cases b<;>simp_all [Cx]
 |x::a,b,h=>by
  cases b with
  |nil=>simp [Cx] at h
  |cons y b=>
   simp only [Cx,Bool.and_eq_true] at h
   rw[Yz x y h.1,wT a b h.2]
end
def Pf(a b:aW):Bool:=Nat.beq a.elem b.elem&&Nat.beq a.esz b.esz&&Nat.beq a.wf b.wf&&(a.app==b.app)&&Cx a.cs b.cs
theorem Pg{a b:aW}(h:Pf a b=true):a=b:=by
 unfold Pf at h
 simp only [Bool.and_eq_true,Nat.beq_eq,beq_iff_eq] at h
 obtain⟨a1,a2,a3,a4,a5⟩:=a
 obtain⟨b1,b2,b3,b4,b5⟩:=b
 obtain⟨⟨⟨⟨h1,h2⟩,h3⟩,h4⟩,h5⟩:=h
 simp only at h1 h2 h3 h4 h5
 rw[h1,h2,h3,h4,wT _ _ h5]
mutual
def Ut:Value->List Nat
 | .slice (some a) _ _=> [a.block]
 | .pointer (some a)=> [a.block]
 | .agg x=>Ow x
 | .tuple x=>Ow x
 |_=> []
def Ow:Array Value->List Nat
 |⟨l⟩=>uC l
def uC:List Value->List Nat
 | []=> []
 |v::l=>Ut v++uC l
end
structure Oo where
 args0:List Value
 blks:List aW
 v0:Value
 newsS:List Nat
 news:List aW
def qP(M:aA):List Nat->List aW->Bool
 | [],[]=>true
 |a::l,b::m=>(match M.get a with|some c=>Pf c b|none=>false)&&qP M l m
 |_,_=>false
def Ma(r:Option (List Value))(l:List Value):Bool:=match r with|some k=>Cx k l|none=>false
def Im(K:Oo):List Value->aA->Option (Value×aA):=fun args M=>
 bif hQ (uC args)&&Ma (jW (pX 0 (uC args)) args) K.args0&&qP M (uC args) K.blks then
  match lT (kT M.next K.newsS) K.v0 with
  |some v=>some (v,M.mut [] K.news)
  |none=>none
 else none
def Nq:Nat->List aW->List (Nat×aW)
 |_,[]=> []
 |n,b::l=>(n,b)::Nq (n+1) l
theorem Ip: ∀{l:List aW} {n:Nat} {p:Nat×aW},p∈Nq n l->n<=p.1/\l[p.1-n]?=some p.2
 | [],_,_,h=>by cases h
 |b::l,n,p,h=>by
  simp only [Nq] at h
  rcases List.mem_cons.1 h with rfl|h
  ·simp
  ·obtain⟨h1,h2⟩:=Ip h
   refine⟨by omega,?_⟩
   rw[show p.1-n=(p.1-(n+1))+1 by omega]
   simpa using h2
theorem Ak{M:aA}: ∀{src:List Nat} {bs:List aW},qP M src bs=true->src.length=bs.length/\ ∀(i:Nat) (b:aW),bs[i]?=some b-> ∃a:Nat,src[i]?=some a/\M.get a=some b
 | [],[],_=>⟨rfl,fun i b h=>by simp at h⟩
 | [],_::_,h=>by simp [qP] at h
 |_::_,[],h=>by simp [qP] at h
 |a::l,b::m,h=>by
  simp only [qP,Bool.and_eq_true] at h
  obtain⟨h1,h2⟩:=h
  split at h1
  ·rename_i c hc
   have:=Pg h1
   subst this
   obtain⟨k1,k2⟩:=Ak h2
   refine⟨by simp [k1],fun i b hb=> ?_⟩
   cases i with
   |zero=>simp at hb;subst hb;exact⟨a,rfl,hc⟩
   |succ i=>exact k2 i b (by simpa using hb)|>.imp fun x hx=>⟨by simpa using hx.1,hx.2⟩
  ·cases h1
def Io(n:Nat):List Nat->Bool
 | []=>true
 |x::l=>Nat.ble n x&&Io n l
theorem xL{n x:Nat}: ∀{l:List Nat},Io n l=true->x∈l->n<=x
 | [],_,h=>by cases h
 |y::l,h,hm=>by
  simp only [Io,Bool.and_eq_true] at h
  rcases List.mem_cons.1 hm with rfl|hm
  ·exact Nat.le_of_ble_eq_true h.1
  ·exact xL h.2 hm
def xK:List aW->Bool
 | []=>true
 |b::l=>cX b.cs&&xK l
theorem uT{b:aW}: ∀{l:List aW},xK l=true->b∈l->cX b.cs=true
 | [],_,h=>by cases h
 |c::l,h,hm=>by
  simp only [xK,Bool.and_eq_true] at h
  rcases List.mem_cons.1 hm with rfl|hm
  ·exact h.1
  ·exact uT h.2 hm
variable{P:Program}{GL:List Nat}{B:Bd}
def Gk(K:Oo):Bool:=hQ K.newsS&&Io K.blks.length K.newsS&&xK K.blks&&xK K.news&&Nat.beq K.newsS.length K.news.length
def Gj(P:Program)(SP:cZ)(n:Nat)(f:FuncId)(K:Oo):Option (Value×List (Option aW)×Bool):=
 (arun P [] SP n f K.args0 (cE (Nq 0 K.blks) K.blks.length)).map fun r=>(r.1,K.newsS.map r.2.get,Io K.blks.length r.2.log)
theorem cV.memo(hN:dU P)(hm:P.follows .mixedOrders=true){f:FuncId}(K:Oo){n:Nat}{SP:cZ}(hS: ∀B,cJ P [] B SP)(hst:Gk K=true)
  (hrun:Gj P SP n f K=some (K.v0,K.news.map some,true)):cV P GL B f (Im K):=by
 unfold Gk at hst
 simp only [Bool.and_eq_true,Nat.beq_eq] at hst
 obtain⟨⟨⟨⟨s1,s2⟩,s3⟩,s4⟩,s5⟩:=hst
 unfold Gj at hrun
 cases hr:Go.Am.arun P [] SP n f K.args0 (cE (Nq 0 K.blks) K.blks.length) with
 |none=>rw[hr] at hrun;cases hrun
 |some r=>
  obtain⟨v1,M1⟩:=r
  rw[hr] at hrun
  simp only [Option.map_some,Option.some.injEq,Prod.mk.injEq] at hrun
  obtain⟨rfl,r2,r3⟩:=hrun
  refine cV.ofMut hN hm fun args M v M' hg=> ?_
  unfold Im at hg
  generalize hsrc:uC args=src at hg
  ·cases hc:(hQ src&&Ma (jW (pX 0 src) args) K.args0&&qP M src K.blks)<;>simp only [hc,cond_true,cond_false] at hg
   ·cases hg
   ·simp only [Bool.and_eq_true] at hc
    obtain⟨⟨c1,c2⟩,c3⟩:=hc
    obtain⟨d1,d2⟩:=Ak c3
    split at hg
    ·rename_i v2 a0
     simp only [Option.some.injEq,Prod.mk.injEq] at hg
     obtain⟨rfl,rfl⟩:=hg
     have hnew: ∀(i:Nat) (b:aW),K.news[i]?=some b-> ∃s:Nat,K.newsS[i]?=some s/\M1.get s=some b:=fun i b hb=>by
      have h1:(K.newsS.map M1.get)[i]?=some (some b):=by rw[r2,List.getElem?_map,hb];rfl
      rw[List.getElem?_map] at h1
      cases hs:K.newsS[i]? with
      |none=>rw[hs] at h1;cases h1
      |some s=>rw[hs] at h1;exact⟨s,rfl,by simpa using h1⟩
     refine⟨[],K.news,src,Nq 0 K.blks,n,SP,K.args0,K.v0,M1,[],K.newsS,rfl,⟨hS,by rw[d1];exact hr,c1,fun p hp=> ?_,?_,fun t ht hlt=> ?_,fun j a hj=> ?_,fun a ha=>(by cases ha),fun j hj=>(by cases hj),fun a b hab=>(by cases hab),fun i b hb=> ?_,s5,s1,fun s hs=>⟨by simp,fun hlt=> ?_⟩,a0,fun a ha=>(by cases ha)⟩⟩
     ·obtain⟨_,h2⟩:=Ip hp
      rw[Nat.sub_zero] at h2
      obtain⟨a,h3,h4⟩:=d2 _ _ h2
      exact⟨a,p.2,h3,h4,jX _ _ (uT s3 (List.mem_of_getElem? h2)),rfl⟩
     ·unfold Ma at c2
      split at c2
      ·rename_i k hk
       rw[hk,wT _ _ c2]
      ·cases c2
     ·have:=xL r3 ht
      omega
     ·have hlt:j<K.blks.length:=by
       rw[<-d1]
       rcases Nat.lt_or_ge j src.length with q|q
       ·exact q
       ·rw[List.getElem?_eq_none q] at hj;cases hj
      obtain⟨a',h1,h2⟩:=d2 j _ (List.getElem?_eq_getElem hlt)
      rw[hj] at h1;cases h1
      exact(bR.1 h2).1
     ·obtain⟨s,h1,h2⟩:=hnew i b hb
      refine⟨s,b,h1,h2,⟨[],?_⟩,rfl⟩
      rw[List.append_nil]
      exact jX _ _ (uT s4 (List.mem_of_getElem? hb))
     ·have:=xL s2 hs
      omega
    ·cases hg
end Go.Am
end

noncomputable section
namespace Go.Am
open Go
variable{P:Program}{GL:List Nat}{B:Bd}
structure Ke(P:Program)(f:FuncId)(args:List Value)(M:aA)(v:Value)(olds:List (Nat×Option aW))(news:List aW)(src:List Nat)(l:List (Nat×aW))(n:Nat)(SP:cZ)(args0:List Value)(v0:Value)(M0:aA)(keepJ newsS:List Nat):Prop where
 specs: ∀B,cJ P [] B SP
 run:Ev P [] f args0 (cE l src.length) v0 M0
 dist:hQ src=true
 blks: ∀p∈l,∃(a:Nat) (c:aW),src[p.1]?=some a/\M.get a=some c/\jW (pX 0 src) c.cs=some p.2.cs/\c={p.2 with cs:=c.cs}
 args:jW (pX 0 src) args=some args0
 wr: ∀t∈M0.log,t<src.length->(∃p∈l,p.1=t/\cT p.2)/\ ∃a:Nat,src[t]?=some a/\a∈olds.map (·.1)
 srcLt: ∀(j a:Nat),src[j]?=some a->a<M.next
 oldsIn: ∀a:Nat,a∈olds.map (·.1)-> ∃j:Nat,src[j]?=some a
 keep: ∀j∈keepJ,j<src.length
 oldS: ∀(a:Nat) (b:aW),(a,some b)∈olds-> ∃(j:Nat) (b0:aW),j∈keepJ/\src[j]?=some a/\M0.get j=some b0/\(∃r,jW (oD src keepJ++kT M.next newsS) b0.cs=some (b.cs++r))/\b={b0 with cs:=b.cs}
 newS: ∀(i:Nat) (b:aW),news[i]?=some b-> ∃(s:Nat) (b0:aW),newsS[i]?=some s/\M0.get s=some b0/\(∃r,jW (oD src keepJ++kT M.next newsS) b0.cs=some (b.cs++r))/\b={b0 with cs:=b.cs}
 newL:newsS.length=news.length
 newD:hQ newsS=true
 newO: ∀s∈newsS,s∉keepJ/\(s<src.length-> ∃a:Nat,src[s]?=some a/\a∈olds.map (·.1))
 val:lT (oD src keepJ++kT M.next newsS) v0=some v
 old0: ∀a∈olds.map (·.1),∀c,M.get a=some c->c.wf=0/\(c.app=true\/0<c.cs.length)
theorem Ke.calls(hN:dU P)(hm:P.follows .mixedOrders=true){f:FuncId}{args:List Value}{M:aA}{v:Value}{olds:List (Nat×Option aW)}{news:List aW}{src:List Nat}{l:List (Nat×aW)}{n:Nat}{SP:cZ}{args0:List Value}{v0:Value}{M0:aA}{keepJ newsS:List Nat}
  (hF:Ke P f args M v olds news src l n SP args0 v0 M0 keepJ newsS) {φ:dC} {w:World} (hR:gI P GL B φ M w) (hG:iX φ M (M.mut olds news)) {args':Array Value} (ha:bU φ args args'.toList):
  Calls P f args' w fun e w'=> ∃L φ' v',e= .returned v'/\(M.mut olds news).log=L++M.log/\Post P GL B φ φ' M (M.mut olds news) L w w'/\bA φ' v v':=by
 have ho: ∀a∈olds.map (·.1),a<M.next:=fun a h=>by
  obtain⟨j,hj⟩:=hF.oldsIn a h
  exact hF.srcLt j a hj
 let φs:dC:=fun j=>match src[j]? with
  |some a=>φ a
  |none=>none
 have hφs: ∀{j a:Nat},src[j]?=some a->φs j=φ a:=fun hj=>by simp only [φs,hj]
 have hfar: ∀{j:Nat} {e:oO},φs j=some e->j<src.length:=fun{j e} h=>by
  by_cases hh:j<src.length
  ·exact hh
  ·simp only [φs] at h
   rw[List.getElem?_eq_none (by omega)] at h;cases h
 have a8: ∀s t,jE (pX 0 src) s=some t-> ∀e,φ s=some e->φs t=some e:=fun s t h e he=>by
  obtain⟨fl,hmem⟩:=qG h
  have:=(Bw hmem).2
  rw[Nat.sub_zero] at this
  rw[hφs this];exact he
 have a6: ∀{id b},(cE l src.length).getA id=some b->(id,b)∈l:=fun hb=>kQ (bK.1 hb).2.2
 have a5: ∀{p:Nat×aW} {c:aW},jW (pX 0 src) c.cs=some p.2.cs->c={p.2 with cs:=c.cs}->(cT p.2↔cT c):=fun{p c} h1 h2=>by
  unfold cT
  have:=eX h1
  rw[this,h2]
 have b9:gI P [] B.flat φs (cE l src.length) w:=by
  refine⟨fun id b hb=> ?_,fun a4 b5 b1 b2 e1 e2 hne a9 b3 hw a0 a3=> ?_,fun g hg=>(by cases hg),fun k hk=>Bd.flat_ok.2 (hR.size k hk),fun id b hb=>(bK.1 hb).1,fun x hx=>by cases hx⟩
  ·obtain⟨a,c,h1,h2,h3,h4⟩:=hF.blks _ (a6 hb)
   simp only at h1 h3 h4
   obtain⟨e,he,hr⟩:=hR.blk a c h2
   refine⟨e,by rw[hφs h1];exact he,.inl ⟨?_,?_,by rw[eX h3];exact hr.len,fun hw=>Bd.flat_ok.2 (hr.own ?_),fun q1 q2=>hr.whole (by rw[h4];exact q1) fun q3=>q2 (List.eq_nil_of_length_eq_zero (by have:=eX h3;rw[q3] at this;exact this)),hr.real⟩⟩
   ·rw[hr.esz,h4]
   ·obtain⟨cc,lo,hi,k1,k2,k3,k4⟩:=hr.cells
    refine⟨cc,lo,hi,by rw[h4] at k1;exact k1,k2,fun j u hu=> ?_,fun hw=> ?_⟩
    ·obtain⟨u0,q1,q2⟩:=sK h3 hu
     obtain⟨u',q3,q4⟩:=k3 j u0 q1
     exact⟨u',q3,mQ a8 q4 q2⟩
    ·have:=k4 ((a5 (p:=(id,b)) h3 h4).1 hw)
     rw[h4] at this
     exact this
   ·exact(a5 (p:=(id,b)) h3 h4).1 hw
  ·obtain⟨a1,c1,h1,h2,h3,h4⟩:=hF.blks _ (a6 a9)
   obtain⟨a2,c2,k1,k2,k3',k4'⟩:=hF.blks _ (a6 b3)
   simp only at h1 h3 h4 k1
   rw[hφs h1] at a0
   rw[hφs k1] at a3
   refine(hR.sep a1 a2 c1 c2 e1 e2 (fun he=> ?_) h2 k2 ((a5 (p:=(a4,b1)) h3 h4).1 hw) a0 a3).congr (by rw[h4]) (by rw[k4']) (by rw[eX k3']) (by rw[k4'])
   subst he
   exact hne (lE hF.dist h1 k1)
 have c0:bU φs args0 args'.toList:=oG a8 ha hF.args
 have b7:iX φs (cE l src.length) M0:=fun id h1 _=>by
  simp only [φs]
  rw[List.getElem?_eq_none h1]
 have hokc:=hF.run.run B.flat φs w b9 b7 args' c0
 obtain⟨L0,hA⟩:=hF.run.abs
 have b8:M0.log=L0:=by
  have:=hA.log
  simpa [cE] using this
 refine hokc.mono fun e w' ⟨Ls,φs',v',he,hlog,hp,hv'⟩=> ?_
 have hLs:M0.log=Ls:=by rw[hlog];simp [cE]
 let mv:=oD src keepJ++kT M.next newsS
 let φ':dC:=fun id=>if id<M.next then φ id else match newsS[id-M.next]? with
  |some s=>φs' s
  |none=>φ id
 have hold: ∀{id:Nat},id<M.next->φ' id=φ id:=fun hid=>by simp only [φ'];rw[if_pos hid]
 have hnew: ∀{id s:Nat},M.next<=id->newsS[id-M.next]?=some s->φ' id=φs' s:=fun{id s} h1 h2=>by
  simp only [φ'];rw[if_neg (by omega),h2]
 have hsame: ∀{j:Nat},j<src.length->φs' j=φs j:=fun hj=>hp.ext _ (.inl hj)
 have hlt: ∀{id:Nat} {b:aW} {e:oO},M.getA id=some b->φ id=some e->e.block<w.heap.size:=fun{id b e} hb he=>by
  obtain⟨e',k1,hr⟩:=hR.blkA id b hb
  rw[k1] at he
  obtain rfl:=Option.some.inj he
  exact hr.lt
 --what is logged is one of the caller's blocks that may be turned
 have hlogd: ∀{t:Nat} {e0:oO},t∈Ls->φs t=some e0-> ∃a c,src[t]?=some a/\a∈olds.map (·.1)/\M.get a=some c/\cT c/\φ a=some e0:=fun{t e0} ht b6=>by
  obtain⟨⟨p,h1,h2,h3⟩,a,h4,h5⟩:=hF.wr t (by rw[hLs];exact ht) (hfar b6)
  obtain⟨a',c,k1,k2,k3,k4⟩:=hF.blks p h1
  rw[h2,h4] at k1;cases k1
  exact⟨a,c,h4,h5,k2,(a5 k3 k4).1 h3,by rw[<-hφs h4];exact b6⟩
 --a block of the run that the caller had
 have hhad: ∀{s:Nat} {b0:aW},s<src.length->M0.get s=some b0-> ∃a c,src[s]?=some a/\M.get a=some c/\(cT b0->cT c):=fun{s b0} hs c3=>by
  by_cases hin:s∈M0.log
  ·obtain⟨⟨p,h1,h2,h3⟩,_⟩:=hF.wr s hin hs
   obtain⟨a,c,k1,k2,k3,k4⟩:=hF.blks p h1
   rw[h2] at k1
   exact⟨a,c,k1,k2,fun _=>(a5 k3 k4).1 h3⟩
  ·have hk:=hA.keep s hs (by rw[<-b8];exact hin)
   have hmem:=kQ (show(mY l).get s=some b0 by rw[<-(bR.1 c3).2.2.1];exact hk.symm)
   obtain⟨a,c,k1,k2,k3,k4⟩:=hF.blks _ hmem
   exact⟨a,c,k1,k2,(a5 (p:=(s,b0)) k3 k4).1⟩
 have hmv: ∀{t s:Nat} {fl:Bool},(t,s,fl)∈mv-> ∀e,φs' s=some e->φ' t=some e:=fun{t s fl} hmem e he=>by
  rcases List.mem_append.1 hmem with hmem|hmem
  ·obtain⟨h1,h2⟩:=xU hmem
   have hs:=hF.keep s h1
   have hsa:src[s]?=some src[s]:=List.getElem?_eq_getElem hs
   rw[hsa] at h2
   simp only [Option.getD_some] at h2
   subst h2
   rw[hsame hs,hφs hsa] at he
   have:src[s]<M.next:=hF.srcLt s _ hsa
   rw[hold this];exact he
  ·obtain⟨h1,h2⟩:=xS hmem
   rw[hnew h1 h2];exact he
 have hle:φ.le φ':=fun id e he=>by
  by_cases h1:id<M.next
  ·rw[hold h1];exact he
  ·by_cases h2:id<(M.mut olds news).next
   ·rw[hG id (by omega) h2] at he;cases he
   ·have h3:newsS[id-M.next]?=none:=by
     rw[List.getElem?_eq_none_iff,hF.newL]
     simp only [aA.mut] at h2
     omega
    simp only [φ']
    rw[if_neg h1,h3]
    exact he
 have hrenO: ∀s t,jE mv s=some t-> ∀e,φs' s=some e->φ' t=some e:=fun s t h e he=>by
  obtain⟨fl,hmem⟩:=qG h
  exact hmv hmem e he
 --each block of the memory behind:an old one,untouched;or one of the run's
 have hcls: ∀{id:Nat} {b:aW},(M.mut olds news).getA id=some b->(id<M.next/\id∉olds.map (·.1)/\M.getA id=some b)\/
   ∃(s:Nat) (b0:aW),M0.get s=some b0/\(∃r,jW mv b0.cs=some (b.cs++r))/\b={b0 with cs:=b.cs}/\φ' id=φs' s/\((id<M.next/\s∈keepJ/\src[s]?=some id/\id∈olds.map (·.1))\/(M.next<=id/\newsS[id-M.next]?=some s)):=fun{id b} hb=>by
  rcases aA.mut_get hb with h|⟨h1,h2⟩|⟨h1,h2⟩
  ·exact .inl h
  ·obtain⟨j,b0,k1,k2,k3,k4,k5⟩:=hF.oldS id b h2
   refine .inr ⟨j,b0,k3,k4,k5,?_,.inl ⟨h1,k1,k2,List.mem_map.2 ⟨_,h2,rfl⟩⟩⟩
   rw[hold h1,hsame (hF.keep j k1),hφs k2]
  ·obtain⟨s,b0,k1,k2,k3,k4⟩:=hF.newS _ b h2
   exact .inr ⟨s,b0,k2,k3,k4,hnew h1 k1,.inr ⟨h1,k1⟩⟩
 have a7: ∀{b b0:aW},(∃r,jW mv b0.cs=some (b.cs++r))->b={b0 with cs:=b.cs}->cT b->cT b0:=fun{b b0} ⟨r,h1⟩ h2 hw=>by
  unfold cT at hw⊢
  have:=eX h1
  rw[List.length_append] at this
  rw[h2] at hw
  simp only at hw
  rcases hw with hw|hw
  ·exact .inl hw
  ·exact .inr (by omega)
 --an old untouched block lies apart from what the run has,if one of them may be turned
 have hap: ∀{a4 s:Nat} {b1 b0:aW} {e1 e2:oO},a4<M.next->a4∉olds.map (·.1)->M.getA a4=some b1->M0.get s=some b0->(s<src.length-> ∃a,src[s]?=some a/\a∈olds.map (·.1))->(cT b1\/cT b0)->φ a4=some e1->φs' s=some e2->e1.block≠e2.block:=fun{a4 s b1 b0 e1 e2} h1 h2 h3 h4 h5 hw a0 a3=>by
  by_cases hs:s<src.length
  ·obtain⟨a,k1,k2⟩:=h5 hs
   obtain⟨a',c,q1,q2,q3⟩:=hhad hs h4
   rw[k1] at q1;cases q1
   rw[hsame hs,hφs k1] at a3
   have hne:a4≠a:=fun he=>h2 (he▸k2)
   rcases hw with hw|hw
   ·obtain⟨z1,z2⟩:=hF.old0 a k2 c q2
    exact(hR.sepA a4 a b1 c e1 e2 hne h3 (fX q2) hw a0 a3).ne (by rw[z1];exact z2)
   ·exact fun he=>(hR.sepA a a4 c b1 e2 e1 (Ne.symm hne) (fX q2) h3 (q3 hw) a3 a0).ne0 (hF.old0 a k2 c q2).1 he.symm
  ·have b4:s<M0.next:=(bR.1 h4).1
   rcases hp.newb s e2 (by simpa [cE] using Nat.le_of_not_lt hs) b4 a3 with k1|⟨t,k1,e0,k2,k3⟩
   ·have:=hlt h3 a0
    omega
   ·obtain⟨a,c,q1,q2,q3,q4,q5⟩:=hlogd k1 k2
    have hne:a4≠a:=fun he=>h2 (he▸q2)
    rw[<-k3]
    exact fun he=>(hR.sepA a a4 c b1 e0 e1 (Ne.symm hne) (fX q3) h3 q4 q5 a0).ne0 (hF.old0 a q2 c q3).1 he.symm
 refine⟨olds.map (·.1),φ',v',he,rfl,⟨fun id hid=> ?_,Nat.le_add_right _ _,⟨fun id b hb=> ?_,fun a4 b5 b1 b2 e1 e2 hne a9 b3 hw a0 a3=> ?_,fun g hg=> ?_,fun k c4=>hR.size k (Nat.le_trans hp.fr.size c4),fun id b hb=>(bK.1 hb).1,fun x hx=>(hR.rnd x hx).step hle (by
   rcases hp.fr.block x.l (hR.rnd x hx).lt with q|⟨q,_⟩
   ·exact q
   ·exact absurd rfl ((Bd.flat_ok.1 q).2.2 x hx))⟩,
  ⟨hp.fr.os,hp.fr.tape,hp.fr.output,hp.fr.size,fun k hk=> ?_⟩,fun id e h1 h2 hid=> ?_,fun t ht=>Nat.lt_of_lt_of_le (ho t ht) (Nat.le_add_right _ _)⟩,mQ hrenO hv' hF.val⟩
 ·rcases hid with hid|hid
  ·exact hold hid
  ·have h3:newsS[id-M.next]?=none:=by
    rw[List.getElem?_eq_none_iff,hF.newL]
    simp only [aA.mut] at hid
    omega
   simp only [φ']
   simp only [aA.mut] at hid
   rw[if_neg (by omega),h3]
 ·rcases hcls hb with⟨h1,h2,h3⟩|⟨s,b0,h1,h2,h3,h4,_⟩
  ·obtain⟨e,k1,hr⟩:=hR.blkA id b h3
   refine⟨e,by rw[hold h1];exact k1,hr.keep hle ?_⟩
   rcases hp.fr.block e.block (hlt h3 k1) with q|⟨_,t,q1,e0,q2,q3⟩
   ·exact q
   ·obtain⟨a,c',r1,r2,r3,r4,r5⟩:=hlogd q1 q2
    exact absurd q3 ((hR.sepA a id c' b e0 e (fun he=>h2 (he▸r2)) (fX r3) h3 r4 r5 k1).ne0 (hF.old0 a r2 c' r3).1)
  ·obtain⟨e,k1,hr⟩:=hp.rel.blk s b0 h1
   refine⟨e,by rw[h4];exact k1,.inl ⟨by rw[h3];exact hr.esz,?_,(by
    obtain⟨r,h2⟩:=h2
    have:=eX h2
    rw[List.length_append] at this
    have:=hr.len
    omega),fun hw=>Bd.flat_ok.1 (hr.own (a7 h2 h3 hw)),fun q1 q2=>hr.whole (by rw[h3] at q1;exact q1) fun q3=>q2 (by
     obtain⟨r,h2⟩:=h2
     have:=eX h2
     rw[q3] at this
     exact List.eq_nil_of_length_eq_zero (by simp only [List.length_append,List.length_nil] at this;omega)),hr.real⟩⟩
   obtain⟨c,lo,hi,k2,k3,k4,k5⟩:=hr.cells
   refine⟨c,lo,hi,by rw[h3];exact k2,k3,fun j u hu=> ?_,fun hw=> ?_⟩
   ·obtain⟨r,h2⟩:=h2
    obtain⟨u0,q1,q2⟩:=sK h2 (j:=j) (u:=u) (by
     have hj:j<b.cs.length:=by
      by_cases hh:j<b.cs.length
      ·exact hh
      ·rw[List.getElem?_eq_none (by omega)] at hu;cases hu
     rw[List.getElem?_append_left hj]
     exact hu)
    obtain⟨u',q3,q4⟩:=k4 j u0 q1
    exact⟨u',q3,mQ hrenO q4 q2⟩
   ·have:=k5 (a7 h2 h3 hw)
    rw[h3];exact this
 ·rcases hcls a9 with⟨h1,h2,h3⟩|⟨s1,c1,h1,h2,h3,h4,h5⟩<;>rcases hcls b3 with⟨k1,k2,k3⟩|⟨s2,c2,k1,k2,k3,k4,k5⟩
  ·rw[hold h1] at a0
   rw[hold k1] at a3
   exact hR.sepA a4 b5 b1 b2 e1 e2 hne h3 k3 hw a0 a3
  ·rw[hold h1] at a0
   rw[k4] at a3
   refine .inl (hap h1 h2 h3 k1 (fun hs=> ?_) (.inl hw) a0 a3)
   rcases k5 with⟨_,_,q3,q4⟩|⟨_,q2⟩
   ·exact⟨b5,q3,q4⟩
   ·exact(hF.newO s2 (List.mem_of_getElem? q2)).2 hs
  ·rw[hold k1] at a3
   rw[h4] at a0
   refine .inl (fun he=>hap k1 k2 k3 h1 (fun hs=> ?_) (.inr (a7 h2 h3 hw)) a3 a0 he.symm)
   rcases h5 with⟨_,_,q3,q4⟩|⟨_,q2⟩
   ·exact⟨a4,q3,q4⟩
   ·exact(hF.newO s1 (List.mem_of_getElem? q2)).2 hs
  ·rw[h4] at a0
   rw[k4] at a3
   refine(hp.rel.sep s1 s2 c1 c2 e1 e2 (fun hs=> ?_) h1 k1 (a7 h2 h3 hw) a0 a3).less (by rw[h3]) (by rw[k3]) (by
    obtain⟨r,k2⟩:=k2
    have:=eX k2
    rw[List.length_append] at this
    omega) (by rw[k3])
   subst hs
   rcases h5 with⟨_,q2,q3,_⟩|⟨q1,q2⟩<;>rcases k5 with⟨_,r2,r3,_⟩|⟨r1,r2⟩
   ·rw[q3] at r3;cases r3;exact hne rfl
   ·exact(hF.newO s1 (List.mem_of_getElem? r2)).1 q2
   ·exact(hF.newO s1 (List.mem_of_getElem? q2)).1 r2
   ·have:=lE hF.newD q2 r2
    exact hne (by omega)
 ·obtain⟨h1,e,h2,h3⟩:=hR.glob g hg
  exact⟨Nat.lt_of_lt_of_le h1 (Nat.le_add_right _ _),e,by rw[hold h1];exact h2,h3⟩
 ·rcases hp.fr.block k hk with h1|⟨h1,t,h2,e0,h3,h4⟩
  ·exact .inl h1
  ·obtain⟨a,c,r1,r2,r3,r4,r5⟩:=hlogd h2 h3
   exact .inr ⟨Bd.flat_ok.1 h1,a,r2,e0,r5,h4⟩
 ·have h1':M.next<=id:=h1
  have h2':id<M.next+news.length:=h2
  cases hs:newsS[id-M.next]? with
  |none=>
   rw[List.getElem?_eq_none_iff,hF.newL] at hs
   omega
  |some s=>
   rw[hnew h1' hs] at hid
   have hO:=hF.newO s (List.mem_of_getElem? hs)
   by_cases hsl:s<src.length
   ·obtain⟨a,q1,q2⟩:=hO.2 hsl
    rw[hsame hsl,hφs q1] at hid
    exact .inr ⟨a,q2,e,hid,rfl⟩
   ·have b4:s<M0.next:=by
     obtain⟨s',b0,q1,q2,_⟩:=hF.newS (id-M.next) (news[id-M.next]'(by omega)) (List.getElem?_eq_getElem (by omega))
     rw[hs] at q1
     obtain rfl:=Option.some.inj q1
     exact(bR.1 q2).1
    rcases hp.newb s e (by simpa [cE] using Nat.le_of_not_lt hsl) b4 hid with q1|⟨t,q1,e0,q2,q3⟩
    ·exact .inl q1
    ·obtain⟨a,c,r1,r2,r3,r4,r5⟩:=hlogd q1 q2
     exact .inr ⟨a,r2,e0,r5,q3⟩
theorem cV.ofEvMut(hN:dU P)(hm:P.follows .mixedOrders=true){f:FuncId}{g:List Value->aA->Option (Value×aA)}
  (h: ∀args M v M',g args M=some (v,M')-> ∃olds news src l n SP args0 v0 M0 keepJ newsS,M'=M.mut olds news/\Ke P f args M v olds news src l n SP args0 v0 M0 keepJ newsS):cV P GL B f g:=by
 refine⟨fun args M v M' hg=> ?_,fun args M v M' hg φ w hR hG args' ha=> ?_⟩
 ·obtain⟨olds,news,src,l,n,SP,args0,v0,M0,keepJ,newsS,rfl,hF⟩:=h args M v M' hg
  exact⟨_,aA.mut_abs fun a ha=>by
   obtain⟨j,hj⟩:=hF.oldsIn a ha
   exact hF.srcLt j a hj⟩
 ·obtain⟨olds,news,src,l,n,SP,args0,v0,M0,keepJ,newsS,rfl,hF⟩:=h args M v M' hg
  exact hF.calls hN hm hR hG ha
end Go.Am
end
