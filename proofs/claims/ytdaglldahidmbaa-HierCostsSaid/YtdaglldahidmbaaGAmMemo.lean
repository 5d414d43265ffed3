/-
  Package hier: each of its laws for every argument; no conditions. The last text states which.
-/
import Derived.Test.YtdaglldahidmbaaGAmLoop
import Derived.Test.YtdaglldahidmbaaAmE
set_option linter.unusedVariables false
set_option linter.unusedSimpArgs false
noncomputable section
namespace Go.Am
open Go
def addrEq(a b:Addr):Bool:=Nat.beq a.block b.block&&Nat.beq a.off b.off&&a.spot.isNone&&b.spot.isNone
mutual
def vEq:Value→Value→Bool
 | .bool a,v=>match v with| .bool b=>a==b|_=>false
 | .int k a,v=>match v with| .int k' b=>decide (k=k')&&decide (a=b)|_=>false
 | .string a,v=>match v with| .string b=>decide (a=b)|_=>false
 | .slice none l c,v=>match v with| .slice none l' c'=>Nat.beq l l'&&Nat.beq c c'|_=>false
 | .slice (some a) l c,v=>match v with| .slice (some b) l' c'=>addrEq a b&&Nat.beq l l'&&Nat.beq c c'|_=>false
 | .pointer none,v=>match v with| .pointer none=>true|_=>false
 | .pointer (some a),v=>match v with| .pointer (some b)=>addrEq a b|_=>false
 | .agg x,v=>match v with| .agg y=>vaEq x y.toList|_=>false
 | .tuple x,v=>match v with| .tuple y=>vaEq x y.toList|_=>false
 |_,_=>false
def vaEq:Array Value→List Value→Bool
 |⟨x⟩,y=>vsEq x y
def vsEq:List Value→List Value→Bool
 | [],m=>match m with| []=>true|_=>false
 |a::l,m=>match m with|b::m=>vEq a b&&vsEq l m| []=>false
end
theorem addrEq_eq{a b:Addr}(h:addrEq a b=true):a=b:=by
 unfold addrEq at h
 simp only [Bool.and_eq_true,Nat.beq_eq,Option.isNone_iff_eq_none] at h
 obtain⟨a1,a2,a3⟩:=a
 obtain⟨b1,b2,b3⟩:=b
 obtain⟨⟨⟨h1,h2⟩,h3⟩,h4⟩:=h
 simp only at h1 h2 h3 h4
 subst h1 h2 h3 h4
 rfl
mutual
theorem vEq_eq: ∀(a b:Value),vEq a b=true→a=b
 | .bool a,b,h=>by cases b<;>simp_all [vEq]
 | .int k a,b,h=>by cases b<;>simp_all [vEq]
 | .string a,b,h=>by cases b<;>simp_all [vEq]
 | .slice none l c,b,h=>by
  cases b<;>simp only [vEq] at h<;>try cases h
  rename_i a l' c'
  cases a<;>simp_all
 | .slice (some a) l c,b,h=>by
  cases b<;>simp only [vEq] at h<;>try cases h
  rename_i b l' c'
  cases b with
  |none=>cases h
  |some b=>
   simp only [Bool.and_eq_true,Nat.beq_eq] at h
   rw[addrEq_eq h.1.1,h.1.2,h.2]
 | .pointer none,b,h=>by
  cases b<;>simp only [vEq] at h<;>try cases h
  rename_i a
  cases a<;>simp_all
 | .pointer (some a),b,h=>by
  cases b<;>simp only [vEq] at h<;>try cases h
  rename_i b
  cases b with
  |none=>cases h
  |some b=>rw[addrEq_eq h]
 | .agg ⟨x⟩,b,h=>by
  cases b<;>simp only [vEq] at h<;>try cases h
  rename_i y
  obtain⟨y⟩:=y
  have:=vsEq_eq x y h
  rw[this]
 | .tuple ⟨x⟩,b,h=>by
  cases b<;>simp only [vEq] at h<;>try cases h
  rename_i y
  obtain⟨y⟩:=y
  have:=vsEq_eq x y h
  rw[this]
 | .float _ _,b,h=>by simp [vEq] at h
 | .complex _ _ _,b,h=>by simp [vEq] at h
 | .map _,b,h=>by simp [vEq] at h
 | .chan _,b,h=>by simp [vEq] at h
 | .func _ _ _,b,h=>by simp [vEq] at h
 | .nilFunc,b,h=>by simp [vEq] at h
 | .iface _ _,b,h=>by simp [vEq] at h
 | .nilIface,b,h=>by simp [vEq] at h
theorem vsEq_eq: ∀(a b:List Value),vsEq a b=true→a=b
 | [],b,h=>by cases b<;>simp_all [vsEq]
 |x::a,b,h=>by
  cases b with
  |nil=>simp [vsEq] at h
  |cons y b=>
   simp only [vsEq,Bool.and_eq_true] at h
   rw[vEq_eq x y h.1,vsEq_eq a b h.2]
end
def blkEq(a b:ABlk):Bool:=Nat.beq a.elem b.elem&&Nat.beq a.esz b.esz&&Nat.beq a.wf b.wf&&(a.app==b.app)&&vsEq a.cs b.cs
theorem blkEq_eq{a b:ABlk}(h:blkEq a b=true):a=b:=by
 unfold blkEq at h
 simp only [Bool.and_eq_true,Nat.beq_eq,beq_iff_eq] at h
 obtain⟨a1,a2,a3,a4,a5⟩:=a
 obtain⟨b1,b2,b3,b4,b5⟩:=b
 obtain⟨⟨⟨⟨h1,h2⟩,h3⟩,h4⟩,h5⟩:=h
 simp only at h1 h2 h3 h4 h5
 rw[h1,h2,h3,h4,vsEq_eq _ _ h5]
mutual
def addrsV:Value→List Nat
 | .slice (some a) _ _=> [a.block]
 | .pointer (some a)=> [a.block]
 | .agg x=>addrsA x
 | .tuple x=>addrsA x
 |_=> []
def addrsA:Array Value→List Nat
 |⟨l⟩=>addrsL l
def addrsL:List Value→List Nat
 | []=> []
 |v::l=>addrsV v++addrsL l
end
structure Memo where
 args0:List Value
 blks:List ABlk
 v0:Value
 newsS:List Nat
 news:List ABlk
def blksEq(M:Mem):List Nat→List ABlk→Bool
 | [],[]=>true
 |a::l,b::m=>(match M.get a with|some c=>blkEq c b|none=>false)&&blksEq M l m
 |_,_=>false
def rensEq(r:Option (List Value))(l:List Value):Bool:=match r with|some k=>vsEq k l|none=>false
def gMemo(K:Memo):List Value→Mem→Option (Value×Mem):=fun args M=>
 bif distinct (addrsL args)&&rensEq (renL (mvIn 0 (addrsL args)) args) K.args0&&blksEq M (addrsL args) K.blks then
  match renV (mvNew M.next K.newsS) K.v0 with
  |some v=>some (v,M.mut [] K.news)
  |none=>none
 else none
def idxB:Nat→List ABlk→List (Nat×ABlk)
 |_,[]=> []
 |n,b::l=>(n,b)::idxB (n+1) l
theorem idxB_mem: ∀{l:List ABlk} {n:Nat} {p:Nat×ABlk},p∈idxB n l→n≤p.1∧l[p.1-n]?=some p.2
 | [],_,_,h=>by cases h
 |b::l,n,p,h=>by
  simp only [idxB] at h
  rcases List.mem_cons.1 h with rfl|h
  ·simp
  ·obtain⟨h1,h2⟩:=idxB_mem h
   refine⟨by omega,?_⟩
   rw[show p.1-n=(p.1-(n+1))+1 by omega]
   simpa using h2
theorem blksEq_get{M:Mem}: ∀{src:List Nat} {bs:List ABlk},blksEq M src bs=true→src.length=bs.length∧ ∀(i:Nat) (b:ABlk),bs[i]?=some b→ ∃a:Nat,src[i]?=some a∧M.get a=some b
 | [],[],_=>⟨rfl,fun i b h=>by simp at h⟩
 | [],_::_,h=>by simp [blksEq] at h
 |_::_,[],h=>by simp [blksEq] at h
 |a::l,b::m,h=>by
  simp only [blksEq,Bool.and_eq_true] at h
  obtain⟨h1,h2⟩:=h
  split at h1
  ·rename_i c hc
   have:=blkEq_eq h1
   subst this
   obtain⟨k1,k2⟩:=blksEq_get h2
   refine⟨by simp [k1],fun i b hb=> ?_⟩
   cases i with
   |zero=>simp at hb;subst hb;exact⟨a,rfl,hc⟩
   |succ i=>exact k2 i b (by simpa using hb)|>.imp fun x hx=>⟨by simpa using hx.1,hx.2⟩
  ·cases h1
def geAll(n:Nat):List Nat→Bool
 | []=>true
 |x::l=>Nat.ble n x&&geAll n l
theorem geAll_mem{n x:Nat}: ∀{l:List Nat},geAll n l=true→x∈l→n≤x
 | [],_,h=>by cases h
 |y::l,h,hm=>by
  simp only [geAll,Bool.and_eq_true] at h
  rcases List.mem_cons.1 hm with rfl|hm
  ·exact Nat.le_of_ble_eq_true h.1
  ·exact geAll_mem h.2 hm
def flatBs:List ABlk→Bool
 | []=>true
 |b::l=>flatL b.cs&&flatBs l
theorem flatBs_mem{b:ABlk}: ∀{l:List ABlk},flatBs l=true→b∈l→flatL b.cs=true
 | [],_,h=>by cases h
 |c::l,h,hm=>by
  simp only [flatBs,Bool.and_eq_true] at h
  rcases List.mem_cons.1 hm with rfl|hm
  ·exact h.1
  ·exact flatBs_mem h.2 hm
variable{P:Program}{GL:List Nat}{B:Bd}
def memoSt(K:Memo):Bool:=distinct K.newsS&&geAll K.blks.length K.newsS&&flatBs K.blks&&flatBs K.news&&Nat.beq K.newsS.length K.news.length
def memoRun(P:Program)(SP:Specs)(n:Nat)(f:FuncId)(K:Memo):Option (Value×List (Option ABlk)×Bool):=
 (arun P [] SP n f K.args0 (startMem (idxB 0 K.blks) K.blks.length)).map fun r=>(r.1,K.newsS.map r.2.get,geAll K.blks.length r.2.log)
theorem SpecOk.memo(hN:noNum P)(hm:P.follows .mixedOrders=true){f:FuncId}(K:Memo){n:Nat}{SP:Specs}(hS: ∀B,SpecsOk P [] B SP)(hst:memoSt K=true)
  (hrun:memoRun P SP n f K=some (K.v0,K.news.map some,true)):SpecOk P GL B f (gMemo K):=by
 unfold memoSt at hst
 simp only [Bool.and_eq_true,Nat.beq_eq] at hst
 obtain⟨⟨⟨⟨s1,s2⟩,s3⟩,s4⟩,s5⟩:=hst
 unfold memoRun at hrun
 cases hr:Go.Am.arun P [] SP n f K.args0 (startMem (idxB 0 K.blks) K.blks.length) with
 |none=>rw[hr] at hrun;cases hrun
 |some r=>
  obtain⟨v1,M1⟩:=r
  rw[hr] at hrun
  simp only [Option.map_some,Option.some.injEq,Prod.mk.injEq] at hrun
  obtain⟨rfl,r2,r3⟩:=hrun
  refine SpecOk.ofMut hN hm fun args M v M' hg=> ?_
  unfold gMemo at hg
  generalize hsrc:addrsL args=src at hg
  ·cases hc:(distinct src&&rensEq (renL (mvIn 0 src) args) K.args0&&blksEq M src K.blks)<;>simp only [hc,cond_true,cond_false] at hg
   ·cases hg
   ·simp only [Bool.and_eq_true] at hc
    obtain⟨⟨c1,c2⟩,c3⟩:=hc
    obtain⟨d1,d2⟩:=blksEq_get c3
    split at hg
    ·rename_i v2 hv2
     simp only [Option.some.injEq,Prod.mk.injEq] at hg
     obtain⟨rfl,rfl⟩:=hg
     have hnew: ∀(i:Nat) (b:ABlk),K.news[i]?=some b→ ∃s:Nat,K.newsS[i]?=some s∧M1.get s=some b:=fun i b hb=>by
      have h1:(K.newsS.map M1.get)[i]?=some (some b):=by rw[r2,List.getElem?_map,hb];rfl
      rw[List.getElem?_map] at h1
      cases hs:K.newsS[i]? with
      |none=>rw[hs] at h1;cases h1
      |some s=>rw[hs] at h1;exact⟨s,rfl,by simpa using h1⟩
     refine⟨[],K.news,src,idxB 0 K.blks,n,SP,K.args0,K.v0,M1,[],K.newsS,rfl,⟨hS,by rw[d1];exact hr,c1,fun p hp=> ?_,?_,fun t ht hlt=> ?_,fun j a hj=> ?_,fun a ha=>(by cases ha),fun j hj=>(by cases hj),fun a b hab=>(by cases hab),fun i b hb=> ?_,s5,s1,fun s hs=>⟨by simp,fun hlt=> ?_⟩,hv2,fun a ha=>(by cases ha)⟩⟩
     ·obtain⟨_,h2⟩:=idxB_mem hp
      rw[Nat.sub_zero] at h2
      obtain⟨a,h3,h4⟩:=d2 _ _ h2
      exact⟨a,p.2,h3,h4,renL_flat _ _ (flatBs_mem s3 (List.mem_of_getElem? h2)),rfl⟩
     ·unfold rensEq at c2
      split at c2
      ·rename_i k hk
       rw[hk,vsEq_eq _ _ c2]
      ·cases c2
     ·have:=geAll_mem r3 ht
      omega
     ·have hlt:j<K.blks.length:=by
       rw[←d1]
       rcases Nat.lt_or_ge j src.length with q|q
       ·exact q
       ·rw[List.getElem?_eq_none q] at hj;cases hj
      obtain⟨a',h1,h2⟩:=d2 j _ (List.getElem?_eq_getElem hlt)
      rw[hj] at h1;cases h1
      exact(get_spec.1 h2).1
     ·obtain⟨s,h1,h2⟩:=hnew i b hb
      refine⟨s,b,h1,h2,⟨[],?_⟩,rfl⟩
      rw[List.append_nil]
      exact renL_flat _ _ (flatBs_mem s4 (List.mem_of_getElem? hb))
     ·have:=geAll_mem s2 hs
      omega
    ·cases hg
end Go.Am
end

noncomputable section
namespace Go.Am
open Go
variable{P:Program}{GL:List Nat}{B:Bd}
structure FromEv(P:Program)(f:FuncId)(args:List Value)(M:Mem)(v:Value)(olds:List (Nat×Option ABlk))(news:List ABlk)(src:List Nat)(l:List (Nat×ABlk))(n:Nat)(SP:Specs)(args0:List Value)(v0:Value)(M0:Mem)(keepJ newsS:List Nat):Prop where
 specs: ∀B,SpecsOk P [] B SP
 run:Ev P [] f args0 (startMem l src.length) v0 M0
 dist:distinct src=true
 blks: ∀p∈l,∃(a:Nat) (c:ABlk),src[p.1]?=some a∧M.get a=some c∧renL (mvIn 0 src) c.cs=some p.2.cs∧c={p.2 with cs:=c.cs}
 args:renL (mvIn 0 src) args=some args0
 wr: ∀t∈M0.log,t<src.length→(∃p∈l,p.1=t∧writable p.2)∧ ∃a:Nat,src[t]?=some a∧a∈olds.map (·.1)
 srcLt: ∀(j a:Nat),src[j]?=some a→a<M.next
 oldsIn: ∀a:Nat,a∈olds.map (·.1)→ ∃j:Nat,src[j]?=some a
 keep: ∀j∈keepJ,j<src.length
 oldS: ∀(a:Nat) (b:ABlk),(a,some b)∈olds→ ∃(j:Nat) (b0:ABlk),j∈keepJ∧src[j]?=some a∧M0.get j=some b0∧(∃r,renL (mvOld src keepJ++mvNew M.next newsS) b0.cs=some (b.cs++r))∧b={b0 with cs:=b.cs}
 newS: ∀(i:Nat) (b:ABlk),news[i]?=some b→ ∃(s:Nat) (b0:ABlk),newsS[i]?=some s∧M0.get s=some b0∧(∃r,renL (mvOld src keepJ++mvNew M.next newsS) b0.cs=some (b.cs++r))∧b={b0 with cs:=b.cs}
 newL:newsS.length=news.length
 newD:distinct newsS=true
 newO: ∀s∈newsS,s∉keepJ∧(s<src.length→ ∃a:Nat,src[s]?=some a∧a∈olds.map (·.1))
 val:renV (mvOld src keepJ++mvNew M.next newsS) v0=some v
 old0: ∀a∈olds.map (·.1),∀c,M.get a=some c→c.wf=0∧(c.app=true∨0<c.cs.length)
theorem FromEv.calls(hN:noNum P)(hm:P.follows .mixedOrders=true){f:FuncId}{args:List Value}{M:Mem}{v:Value}{olds:List (Nat×Option ABlk)}{news:List ABlk}{src:List Nat}{l:List (Nat×ABlk)}{n:Nat}{SP:Specs}{args0:List Value}{v0:Value}{M0:Mem}{keepJ newsS:List Nat}
  (hF:FromEv P f args M v olds news src l n SP args0 v0 M0 keepJ newsS) {φ:Emb} {w:World} (hR:Rel P GL B φ M w) (hG:Good φ M (M.mut olds news)) {args':Array Value} (ha:LRel φ args args'.toList):
  Calls P f args' w fun e w'=> ∃L φ' v',e= .returned v'∧(M.mut olds news).log=L++M.log∧Post P GL B φ φ' M (M.mut olds news) L w w'∧VRel φ' v v':=by
 have ho: ∀a∈olds.map (·.1),a<M.next:=fun a h=>by
  obtain⟨j,hj⟩:=hF.oldsIn a h
  exact hF.srcLt j a hj
 let φs:Emb:=fun j=>match src[j]? with
  |some a=>φ a
  |none=>none
 have hφs: ∀{j a:Nat},src[j]?=some a→φs j=φ a:=fun hj=>by simp only [φs,hj]
 have hfar: ∀{j:Nat} {e:Ent},φs j=some e→j<src.length:=fun{j e} h=>by
  by_cases hh:j<src.length
  ·exact hh
  ·simp only [φs] at h
   rw[List.getElem?_eq_none (by omega)] at h;cases h
 have hren0: ∀s t,toTgt (mvIn 0 src) s=some t→ ∀e,φ s=some e→φs t=some e:=fun s t h e he=>by
  obtain⟨fl,hmem⟩:=toTgt_mem h
  have:=(mvIn_mem hmem).2
  rw[Nat.sub_zero] at this
  rw[hφs this];exact he
 have hmem0: ∀{id b},(startMem l src.length).getA id=some b→(id,b)∈l:=fun hb=>blkTree_mem (getA_spec.1 hb).2.2
 have hwr0: ∀{p:Nat×ABlk} {c:ABlk},renL (mvIn 0 src) c.cs=some p.2.cs→c={p.2 with cs:=c.cs}→(writable p.2↔writable c):=fun{p c} h1 h2=>by
  unfold writable
  have:=renL_len h1
  rw[this,h2]
 have hR0:Rel P [] B.flat φs (startMem l src.length) w:=by
  refine⟨fun id b hb=> ?_,fun id1 id2 b1 b2 e1 e2 hne hb1 hb2 hw he1 he2=> ?_,fun g hg=>(by cases hg),fun k hk=>Bd.flat_ok.2 (hR.size k hk),fun id b hb=>(getA_spec.1 hb).1,fun x hx=>by cases hx⟩
  ·obtain⟨a,c,h1,h2,h3,h4⟩:=hF.blks _ (hmem0 hb)
   simp only at h1 h3 h4
   obtain⟨e,he,hr⟩:=hR.blk a c h2
   refine⟨e,by rw[hφs h1];exact he,.inl ⟨?_,?_,by rw[renL_len h3];exact hr.len,fun hw=>Bd.flat_ok.2 (hr.own ?_),fun q1 q2=>hr.whole (by rw[h4];exact q1) fun q3=>q2 (List.eq_nil_of_length_eq_zero (by have:=renL_len h3;rw[q3] at this;exact this)),hr.real⟩⟩
   ·rw[hr.esz,h4]
   ·obtain⟨cc,lo,hi,k1,k2,k3,k4⟩:=hr.cells
    refine⟨cc,lo,hi,by rw[h4] at k1;exact k1,k2,fun j u hu=> ?_,fun hw=> ?_⟩
    ·obtain⟨u0,q1,q2⟩:=renL_get h3 hu
     obtain⟨u',q3,q4⟩:=k3 j u0 q1
     exact⟨u',q3,renV_rel hren0 q4 q2⟩
    ·have:=k4 ((hwr0 (p:=(id,b)) h3 h4).1 hw)
     rw[h4] at this
     exact this
   ·exact(hwr0 (p:=(id,b)) h3 h4).1 hw
  ·obtain⟨a1,c1,h1,h2,h3,h4⟩:=hF.blks _ (hmem0 hb1)
   obtain⟨a2,c2,k1,k2,k3',k4'⟩:=hF.blks _ (hmem0 hb2)
   simp only at h1 h3 h4 k1
   rw[hφs h1] at he1
   rw[hφs k1] at he2
   refine(hR.sep a1 a2 c1 c2 e1 e2 (fun he=> ?_) h2 k2 ((hwr0 (p:=(id1,b1)) h3 h4).1 hw) he1 he2).congr (by rw[h4]) (by rw[k4']) (by rw[renL_len k3']) (by rw[k4'])
   subst he
   exact hne (distinct_inj hF.dist h1 k1)
 have ha0:LRel φs args0 args'.toList:=renL_rel hren0 ha hF.args
 have hG0:Good φs (startMem l src.length) M0:=fun id h1 _=>by
  simp only [φs]
  rw[List.getElem?_eq_none h1]
 have hokc:=hF.run.run B.flat φs w hR0 hG0 args' ha0
 obtain⟨L0,hA⟩:=hF.run.abs
 have hL0:M0.log=L0:=by
  have:=hA.log
  simpa [startMem] using this
 refine hokc.mono fun e w' ⟨Ls,φs',v',he,hlog,hp,hv'⟩=> ?_
 have hLs:M0.log=Ls:=by rw[hlog];simp [startMem]
 let mv:=mvOld src keepJ++mvNew M.next newsS
 let φ':Emb:=fun id=>if id<M.next then φ id else match newsS[id-M.next]? with
  |some s=>φs' s
  |none=>φ id
 have hold: ∀{id:Nat},id<M.next→φ' id=φ id:=fun hid=>by simp only [φ'];rw[if_pos hid]
 have hnew: ∀{id s:Nat},M.next≤id→newsS[id-M.next]?=some s→φ' id=φs' s:=fun{id s} h1 h2=>by
  simp only [φ'];rw[if_neg (by omega),h2]
 have hsame: ∀{j:Nat},j<src.length→φs' j=φs j:=fun hj=>hp.ext _ (.inl hj)
 have hlt: ∀{id:Nat} {b:ABlk} {e:Ent},M.getA id=some b→φ id=some e→e.block<w.heap.size:=fun{id b e} hb he=>by
  obtain⟨e',k1,hr⟩:=hR.blkA id b hb
  rw[k1] at he
  obtain rfl:=Option.some.inj he
  exact hr.lt
 --what is logged is one of the caller's blocks that may be turned
 have hlogd: ∀{t:Nat} {e0:Ent},t∈Ls→φs t=some e0→ ∃a c,src[t]?=some a∧a∈olds.map (·.1)∧M.get a=some c∧writable c∧φ a=some e0:=fun{t e0} ht he0=>by
  obtain⟨⟨p,h1,h2,h3⟩,a,h4,h5⟩:=hF.wr t (by rw[hLs];exact ht) (hfar he0)
  obtain⟨a',c,k1,k2,k3,k4⟩:=hF.blks p h1
  rw[h2,h4] at k1;cases k1
  exact⟨a,c,h4,h5,k2,(hwr0 k3 k4).1 h3,by rw[←hφs h4];exact he0⟩
 --a block of the run that the caller had
 have hhad: ∀{s:Nat} {b0:ABlk},s<src.length→M0.get s=some b0→ ∃a c,src[s]?=some a∧M.get a=some c∧(writable b0→writable c):=fun{s b0} hs hb0=>by
  by_cases hin:s∈M0.log
  ·obtain⟨⟨p,h1,h2,h3⟩,_⟩:=hF.wr s hin hs
   obtain⟨a,c,k1,k2,k3,k4⟩:=hF.blks p h1
   rw[h2] at k1
   exact⟨a,c,k1,k2,fun _=>(hwr0 k3 k4).1 h3⟩
  ·have hk:=hA.keep s hs (by rw[←hL0];exact hin)
   have hmem:=blkTree_mem (show(blkTree l).get s=some b0 by rw[←(get_spec.1 hb0).2.2.1];exact hk.symm)
   obtain⟨a,c,k1,k2,k3,k4⟩:=hF.blks _ hmem
   exact⟨a,c,k1,k2,(hwr0 (p:=(s,b0)) k3 k4).1⟩
 have hmv: ∀{t s:Nat} {fl:Bool},(t,s,fl)∈mv→ ∀e,φs' s=some e→φ' t=some e:=fun{t s fl} hmem e he=>by
  rcases List.mem_append.1 hmem with hmem|hmem
  ·obtain⟨h1,h2⟩:=mvOld_mem hmem
   have hs:=hF.keep s h1
   have hsa:src[s]?=some src[s]:=List.getElem?_eq_getElem hs
   rw[hsa] at h2
   simp only [Option.getD_some] at h2
   subst h2
   rw[hsame hs,hφs hsa] at he
   have:src[s]<M.next:=hF.srcLt s _ hsa
   rw[hold this];exact he
  ·obtain⟨h1,h2⟩:=mvNew_mem hmem
   rw[hnew h1 h2];exact he
 have hle:φ.le φ':=fun id e he=>by
  by_cases h1:id<M.next
  ·rw[hold h1];exact he
  ·by_cases h2:id<(M.mut olds news).next
   ·rw[hG id (by omega) h2] at he;cases he
   ·have h3:newsS[id-M.next]?=none:=by
     rw[List.getElem?_eq_none_iff,hF.newL]
     simp only [Mem.mut] at h2
     omega
    simp only [φ']
    rw[if_neg h1,h3]
    exact he
 have hrenO: ∀s t,toTgt mv s=some t→ ∀e,φs' s=some e→φ' t=some e:=fun s t h e he=>by
  obtain⟨fl,hmem⟩:=toTgt_mem h
  exact hmv hmem e he
 --each block of the memory behind:an old one,untouched;or one of the run's
 have hcls: ∀{id:Nat} {b:ABlk},(M.mut olds news).getA id=some b→(id<M.next∧id∉olds.map (·.1)∧M.getA id=some b)∨
   ∃(s:Nat) (b0:ABlk),M0.get s=some b0∧(∃r,renL mv b0.cs=some (b.cs++r))∧b={b0 with cs:=b.cs}∧φ' id=φs' s∧((id<M.next∧s∈keepJ∧src[s]?=some id∧id∈olds.map (·.1))∨(M.next≤id∧newsS[id-M.next]?=some s)):=fun{id b} hb=>by
  rcases Mem.mut_get hb with h|⟨h1,h2⟩|⟨h1,h2⟩
  ·exact .inl h
  ·obtain⟨j,b0,k1,k2,k3,k4,k5⟩:=hF.oldS id b h2
   refine .inr ⟨j,b0,k3,k4,k5,?_,.inl ⟨h1,k1,k2,List.mem_map.2 ⟨_,h2,rfl⟩⟩⟩
   rw[hold h1,hsame (hF.keep j k1),hφs k2]
  ·obtain⟨s,b0,k1,k2,k3,k4⟩:=hF.newS _ b h2
   exact .inr ⟨s,b0,k2,k3,k4,hnew h1 k1,.inr ⟨h1,k1⟩⟩
 have hwr1: ∀{b b0:ABlk},(∃r,renL mv b0.cs=some (b.cs++r))→b={b0 with cs:=b.cs}→writable b→writable b0:=fun{b b0} ⟨r,h1⟩ h2 hw=>by
  unfold writable at hw⊢
  have:=renL_len h1
  rw[List.length_append] at this
  rw[h2] at hw
  simp only at hw
  rcases hw with hw|hw
  ·exact .inl hw
  ·exact .inr (by omega)
 --an old untouched block lies apart from what the run has,if one of them may be turned
 have hap: ∀{id1 s:Nat} {b1 b0:ABlk} {e1 e2:Ent},id1<M.next→id1∉olds.map (·.1)→M.getA id1=some b1→M0.get s=some b0→(s<src.length→ ∃a,src[s]?=some a∧a∈olds.map (·.1))→(writable b1∨writable b0)→φ id1=some e1→φs' s=some e2→e1.block≠e2.block:=fun{id1 s b1 b0 e1 e2} h1 h2 h3 h4 h5 hw he1 he2=>by
  by_cases hs:s<src.length
  ·obtain⟨a,k1,k2⟩:=h5 hs
   obtain⟨a',c,q1,q2,q3⟩:=hhad hs h4
   rw[k1] at q1;cases q1
   rw[hsame hs,hφs k1] at he2
   have hne:id1≠a:=fun he=>h2 (he▸k2)
   rcases hw with hw|hw
   ·obtain⟨z1,z2⟩:=hF.old0 a k2 c q2
    exact(hR.sepA id1 a b1 c e1 e2 hne h3 (get_A q2) hw he1 he2).ne (by rw[z1];exact z2)
   ·exact fun he=>(hR.sepA a id1 c b1 e2 e1 (Ne.symm hne) (get_A q2) h3 (q3 hw) he2 he1).ne0 (hF.old0 a k2 c q2).1 he.symm
  ·have hs2:s<M0.next:=(get_spec.1 h4).1
   rcases hp.newb s e2 (by simpa [startMem] using Nat.le_of_not_lt hs) hs2 he2 with k1|⟨t,k1,e0,k2,k3⟩
   ·have:=hlt h3 he1
    omega
   ·obtain⟨a,c,q1,q2,q3,q4,q5⟩:=hlogd k1 k2
    have hne:id1≠a:=fun he=>h2 (he▸q2)
    rw[←k3]
    exact fun he=>(hR.sepA a id1 c b1 e0 e1 (Ne.symm hne) (get_A q3) h3 q4 q5 he1).ne0 (hF.old0 a q2 c q3).1 he.symm
 refine⟨olds.map (·.1),φ',v',he,rfl,⟨fun id hid=> ?_,Nat.le_add_right _ _,⟨fun id b hb=> ?_,fun id1 id2 b1 b2 e1 e2 hne hb1 hb2 hw he1 he2=> ?_,fun g hg=> ?_,fun k hk2=>hR.size k (Nat.le_trans hp.fr.size hk2),fun id b hb=>(getA_spec.1 hb).1,fun x hx=>(hR.rnd x hx).step hle (by
   rcases hp.fr.block x.l (hR.rnd x hx).lt with q|⟨q,_⟩
   ·exact q
   ·exact absurd rfl ((Bd.flat_ok.1 q).2.2 x hx))⟩,
  ⟨hp.fr.os,hp.fr.tape,hp.fr.output,hp.fr.size,fun k hk=> ?_⟩,fun id e h1 h2 hid=> ?_,fun t ht=>Nat.lt_of_lt_of_le (ho t ht) (Nat.le_add_right _ _)⟩,renV_rel hrenO hv' hF.val⟩
 ·rcases hid with hid|hid
  ·exact hold hid
  ·have h3:newsS[id-M.next]?=none:=by
    rw[List.getElem?_eq_none_iff,hF.newL]
    simp only [Mem.mut] at hid
    omega
   simp only [φ']
   simp only [Mem.mut] at hid
   rw[if_neg (by omega),h3]
 ·rcases hcls hb with⟨h1,h2,h3⟩|⟨s,b0,h1,h2,h3,h4,_⟩
  ·obtain⟨e,k1,hr⟩:=hR.blkA id b h3
   refine⟨e,by rw[hold h1];exact k1,hr.keep hle ?_⟩
   rcases hp.fr.block e.block (hlt h3 k1) with q|⟨_,t,q1,e0,q2,q3⟩
   ·exact q
   ·obtain⟨a,c',r1,r2,r3,r4,r5⟩:=hlogd q1 q2
    exact absurd q3 ((hR.sepA a id c' b e0 e (fun he=>h2 (he▸r2)) (get_A r3) h3 r4 r5 k1).ne0 (hF.old0 a r2 c' r3).1)
  ·obtain⟨e,k1,hr⟩:=hp.rel.blk s b0 h1
   refine⟨e,by rw[h4];exact k1,.inl ⟨by rw[h3];exact hr.esz,?_,(by
    obtain⟨r,h2⟩:=h2
    have:=renL_len h2
    rw[List.length_append] at this
    have:=hr.len
    omega),fun hw=>Bd.flat_ok.1 (hr.own (hwr1 h2 h3 hw)),fun q1 q2=>hr.whole (by rw[h3] at q1;exact q1) fun q3=>q2 (by
     obtain⟨r,h2⟩:=h2
     have:=renL_len h2
     rw[q3] at this
     exact List.eq_nil_of_length_eq_zero (by simp only [List.length_append,List.length_nil] at this;omega)),hr.real⟩⟩
   obtain⟨c,lo,hi,k2,k3,k4,k5⟩:=hr.cells
   refine⟨c,lo,hi,by rw[h3];exact k2,k3,fun j u hu=> ?_,fun hw=> ?_⟩
   ·obtain⟨r,h2⟩:=h2
    obtain⟨u0,q1,q2⟩:=renL_get h2 (j:=j) (u:=u) (by
     have hj:j<b.cs.length:=by
      by_cases hh:j<b.cs.length
      ·exact hh
      ·rw[List.getElem?_eq_none (by omega)] at hu;cases hu
     rw[List.getElem?_append_left hj]
     exact hu)
    obtain⟨u',q3,q4⟩:=k4 j u0 q1
    exact⟨u',q3,renV_rel hrenO q4 q2⟩
   ·have:=k5 (hwr1 h2 h3 hw)
    rw[h3];exact this
 ·rcases hcls hb1 with⟨h1,h2,h3⟩|⟨s1,c1,h1,h2,h3,h4,h5⟩<;>rcases hcls hb2 with⟨k1,k2,k3⟩|⟨s2,c2,k1,k2,k3,k4,k5⟩
  ·rw[hold h1] at he1
   rw[hold k1] at he2
   exact hR.sepA id1 id2 b1 b2 e1 e2 hne h3 k3 hw he1 he2
  ·rw[hold h1] at he1
   rw[k4] at he2
   refine .inl (hap h1 h2 h3 k1 (fun hs=> ?_) (.inl hw) he1 he2)
   rcases k5 with⟨_,_,q3,q4⟩|⟨_,q2⟩
   ·exact⟨id2,q3,q4⟩
   ·exact(hF.newO s2 (List.mem_of_getElem? q2)).2 hs
  ·rw[hold k1] at he2
   rw[h4] at he1
   refine .inl (fun he=>hap k1 k2 k3 h1 (fun hs=> ?_) (.inr (hwr1 h2 h3 hw)) he2 he1 he.symm)
   rcases h5 with⟨_,_,q3,q4⟩|⟨_,q2⟩
   ·exact⟨id1,q3,q4⟩
   ·exact(hF.newO s1 (List.mem_of_getElem? q2)).2 hs
  ·rw[h4] at he1
   rw[k4] at he2
   refine(hp.rel.sep s1 s2 c1 c2 e1 e2 (fun hs=> ?_) h1 k1 (hwr1 h2 h3 hw) he1 he2).less (by rw[h3]) (by rw[k3]) (by
    obtain⟨r,k2⟩:=k2
    have:=renL_len k2
    rw[List.length_append] at this
    omega) (by rw[k3])
   subst hs
   rcases h5 with⟨_,q2,q3,_⟩|⟨q1,q2⟩<;>rcases k5 with⟨_,r2,r3,_⟩|⟨r1,r2⟩
   ·rw[q3] at r3;cases r3;exact hne rfl
   ·exact(hF.newO s1 (List.mem_of_getElem? r2)).1 q2
   ·exact(hF.newO s1 (List.mem_of_getElem? q2)).1 r2
   ·have:=distinct_inj hF.newD q2 r2
    exact hne (by omega)
 ·obtain⟨h1,e,h2,h3⟩:=hR.glob g hg
  exact⟨Nat.lt_of_lt_of_le h1 (Nat.le_add_right _ _),e,by rw[hold h1];exact h2,h3⟩
 ·rcases hp.fr.block k hk with h1|⟨h1,t,h2,e0,h3,h4⟩
  ·exact .inl h1
  ·obtain⟨a,c,r1,r2,r3,r4,r5⟩:=hlogd h2 h3
   exact .inr ⟨Bd.flat_ok.1 h1,a,r2,e0,r5,h4⟩
 ·have h1':M.next≤id:=h1
  have h2':id<M.next+news.length:=h2
  cases hs:newsS[id-M.next]? with
  |none=>
   rw[List.getElem?_eq_none_iff,hF.newL] at hs
   omega
  |some s=>
   rw[hnew h1' hs] at hid
   have hO:=hF.newO s (List.mem_of_getElem? hs)
   by_cases hsl:s<src.length
   ·obtain⟨a,q1,q2⟩:=hO.2 hsl
    rw[hsame hsl,hφs q1] at hid
    exact .inr ⟨a,q2,e,hid,rfl⟩
   ·have hs2:s<M0.next:=by
     obtain⟨s',b0,q1,q2,_⟩:=hF.newS (id-M.next) (news[id-M.next]'(by omega)) (List.getElem?_eq_getElem (by omega))
     rw[hs] at q1
     obtain rfl:=Option.some.inj q1
     exact(get_spec.1 q2).1
    rcases hp.newb s e (by simpa [startMem] using Nat.le_of_not_lt hsl) hs2 hid with q1|⟨t,q1,e0,q2,q3⟩
    ·exact .inl q1
    ·obtain⟨a,c,r1,r2,r3,r4,r5⟩:=hlogd q1 q2
     exact .inr ⟨a,r2,e0,r5,q3⟩
theorem SpecOk.ofEvMut(hN:noNum P)(hm:P.follows .mixedOrders=true){f:FuncId}{g:List Value→Mem→Option (Value×Mem)}
  (h: ∀args M v M',g args M=some (v,M')→ ∃olds news src l n SP args0 v0 M0 keepJ newsS,M'=M.mut olds news∧FromEv P f args M v olds news src l n SP args0 v0 M0 keepJ newsS):SpecOk P GL B f g:=by
 refine⟨fun args M v M' hg=> ?_,fun args M v M' hg φ w hR hG args' ha=> ?_⟩
 ·obtain⟨olds,news,src,l,n,SP,args0,v0,M0,keepJ,newsS,rfl,hF⟩:=h args M v M' hg
  exact⟨_,Mem.mut_abs fun a ha=>by
   obtain⟨j,hj⟩:=hF.oldsIn a ha
   exact hF.srcLt j a hj⟩
 ·obtain⟨olds,news,src,l,n,SP,args0,v0,M0,keepJ,newsS,rfl,hF⟩:=h args M v M' hg
  exact hF.calls hN hm hR hG ha
end Go.Am
end
