/-
  Package hier: each of its laws for every argument; no conditions. The last text states which.
-/
import Derived.Test.YtdaglldahidmbaaGreatGAmLoop
import Derived.Test.YtdaglldahidmbaaGreatGAmQ
set_option linter.unusedVariables false
set_option linter.unusedSimpArgs false
noncomputable section
namespace Go.Am
open Go
def Bw(a b:Addr):Bool:=Nat.beq a.block b.block&&Nat.beq a.off b.off&&a.spot.isNone&&b.spot.isNone
mutual
def Gy:Value->Value->Bool
 | .bool a,v=>match v with| .bool b=>a==b|_=>false
 | .int k a,v=>match v with| .int k' b=>decide (k=k')&&decide (a=b)|_=>false
 | .string a,v=>match v with| .string b=>decide (a=b)|_=>false
 | .slice none l c,v=>match v with| .slice none l' c'=>Nat.beq l l'&&Nat.beq c c'|_=>false
 | .slice (some a) l c,v=>match v with| .slice (some b) l' c'=>Bw a b&&Nat.beq l l'&&Nat.beq c c'|_=>false
 | .pointer none,v=>match v with| .pointer none=>true|_=>false
 | .pointer (some a),v=>match v with| .pointer (some b)=>Bw a b|_=>false
 | .agg x,v=>match v with| .agg y=>vaEq x y.toList|_=>false
 | .tuple x,v=>match v with| .tuple y=>vaEq x y.toList|_=>false
 |_,_=>false
def vaEq:Array Value->List Value->Bool
 |⟨x⟩,y=>Em x y
def Em:List Value->List Value->Bool
 | [],m=>match m with| []=>true|_=>false
 |a::l,m=>match m with|b::m=>Gy a b&&Em l m| []=>false
end
theorem Fs{a b:Addr}(h:Bw a b=true):a=b:=by
 unfold Bw at h;simp only [Bool.and_eq_true,Nat.beq_eq,Option.isNone_iff_eq_none] at h;obtain⟨a1,a2,a3⟩:=a;obtain⟨b1,b2,b3⟩:=b;obtain⟨⟨⟨h1,h2⟩,h3⟩,h4⟩:=h;simp only at h1 h2 h3 h4;subst h1 h2 h3 h4;rfl
mutual
theorem vEq_eq:∀(a b:Value),Gy a b=true->a=b
 | .bool a,b,h=>by cases b<;>simp_all [Gy]
 | .int k a,b,h=>by cases b<;>simp_all [Gy]
 | .string a,b,h=>by cases b<;>simp_all [Gy]
 | .slice none l c,b,h=>by
  cases b<;>simp only [Gy] at h<;>try cases h
  rename_i a l' c';cases a<;>simp_all
 | .slice (some a) l c,b,h=>by
  cases b<;>simp only [Gy] at h<;>try cases h
  rename_i b l' c';cases b with
  |none=>cases h
  |some b=>
   simp only [Bool.and_eq_true,Nat.beq_eq] at h
   rw[Fs h.1.1,h.1.2,h.2]
 | .pointer none,b,h=>by
  cases b<;>simp only [Gy] at h<;>try cases h
  rename_i a;cases a<;>simp_all
 | .pointer (some a),b,h=>by
  cases b<;>simp only [Gy] at h<;>try cases h
  rename_i b;cases b with
  |none=>cases h
  |some b=>rw[Fs h]
 | .agg ⟨x⟩,b,h=>by
  cases b<;>simp only [Gy] at h<;>try cases h
  rename_i y;obtain⟨y⟩:=y;have:=yJ x y h;rw[this]
 | .tuple ⟨x⟩,b,h=>by
  cases b<;>simp only [Gy] at h<;>try cases h
  rename_i y;obtain⟨y⟩:=y;have:=yJ x y h;rw[this]
 | .float _ _,b,h=>by simp [Gy] at h
 | .complex _ _ _,b,h=>by simp [Gy] at h
 | .map _,b,h=>by simp [Gy] at h
 | .chan _,b,h=>by simp [Gy] at h
 | .func _ _ _,b,h=>by simp [Gy] at h
 | .nilFunc,b,h=>by simp [Gy] at h
 | .iface _ _,b,h=>by simp [Gy] at h
 | .nilIface,b,h=>by simp [Gy] at h
theorem yJ:∀(a b:List Value),Em a b=true->a=b
 | [],b,h=>by cases b<;>simp_all [Em]
 |x::a,b,h=>by
  cases b with
  |nil=>simp [Em] at h
  |cons y b=>
   simp only [Em,Bool.and_eq_true] at h
   rw[vEq_eq x y h.1,yJ a b h.2]
end
def Rx(a b:aR):Bool:=Nat.beq a.elem b.elem&&Nat.beq a.esz b.esz&&Nat.beq a.wf b.wf&&(a.app==b.app)&&Em a.cs b.cs
theorem Ry{a b:aR}(h:Rx a b=true):a=b:=by
 unfold Rx at h;simp only [Bool.and_eq_true,Nat.beq_eq,beq_iff_eq] at h;obtain⟨a1,a2,a3,a4,a5⟩:=a;obtain⟨b1,b2,b3,b4,b5⟩:=b;obtain⟨⟨⟨⟨h1,h2⟩,h3⟩,h4⟩,h5⟩:=h;simp only at h1 h2 h3 h4 h5;rw[h1,h2,h3,h4,yJ _ _ h5]
mutual
def Xz:Value->List Nat
 | .slice (some a) _ _=>[a.block]
 | .pointer (some a)=>[a.block]
 | .agg x=>Ro x
 | .tuple x=>Ro x
 |_=>[]
def Ro:Array Value->List Nat
 |⟨l⟩=>vR l
def vR:List Value->List Nat
 | []=>[]
 |v::l=>Xz v++vR l
end
structure Rj where
 args0:List Value
 blks:List aR
 v0:Value
 newsS:List Nat
 news:List aR
def rZ(M:aB):List Nat->List aR->Bool
 | [],[]=>true
 |a::l,b::m=>(match M.get a with|some c=>Rx c b|none=>false)&&rZ M l m
 |_,_=>false
def Og(r:Option (List Value))(l:List Value):Bool:=match r with|some k=>Em k l|none=>false
def Kh(K:Rj):List Value->aB->Option (Value×aB):=fun args M=>
 bif iR (vR args)&&Og (kV (rH 0 (vR args)) args) K.args0&&rZ M (vR args) K.blks then
  match mP (lX M.next K.newsS) K.v0 with
  |some v=>some (v,M.mut [] K.news)
  |none=>none
 else none
def Qh:Nat->List aR->List (Nat×aR)
 |_,[]=>[]
 |n,b::l=>(n,b)::Qh (n+1) l
theorem Kk:∀{l:List aR} {n:Nat} {p:Nat×aR},p∈Qh n l->n<=p.1/\l[p.1-n]?=some p.2
 | [],_,_,h=>by cases h
 |b::l,n,p,h=>by
  simp only [Qh] at h;rcases List.mem_cons.1 h with rfl|h
  ·simp
  ·obtain⟨h1,h2⟩:=Kk h;refine⟨by omega,?_⟩;rw[show p.1-n=(p.1-(n+1))+1 by omega];simpa using h2
theorem Ci{M:aB}:∀{src:List Nat} {bs:List aR},rZ M src bs=true->src.length=bs.length/\∀(i:Nat) (b:aR),bs[i]?=some b->∃a:Nat,src[i]?=some a/\M.get a=some b
 | [],[],_=>⟨rfl,fun i b h=>by simp at h⟩
 | [],_::_,h=>by simp [rZ] at h
 |_::_,[],h=>by simp [rZ] at h
 |a::l,b::m,h=>by
  simp only [rZ,Bool.and_eq_true] at h;obtain⟨h1,h2⟩:=h;split at h1
  ·rename_i c hc;have:=Ry h1;subst this;obtain⟨k1,k2⟩:=Ci h2;refine⟨by simp [k1],fun i b hb=>?_⟩;cases i with
   |zero=>simp at hb;subst hb;exact⟨a,rfl,hc⟩
   |succ i=>exact k2 i b (by simpa using hb)|>.imp fun x hx=>⟨by simpa using hx.1,hx.2⟩
  ·cases h1
def Ki(n:Nat):List Nat->Bool
 | []=>true
 |x::l=>Nat.ble n x&&Ki n l
theorem zA{n x:Nat}:∀{l:List Nat},Ki n l=true->x∈l->n<=x
 | [],_,h=>by cases h
 |y::l,h,hm=>by
  simp only [Ki,Bool.and_eq_true] at h;rcases List.mem_cons.1 hm with rfl|hm
  ·exact xAd h.1
  ·exact zA h.2 hm
def yZ:List aR->Bool
 | []=>true
 |b::l=>dU b.cs&&yZ l
theorem wI{b:aR}:∀{l:List aR},yZ l=true->b∈l->dU b.cs=true
 | [],_,h=>by cases h
 |c::l,h,hm=>by
  simp only [yZ,Bool.and_eq_true] at h;rcases List.mem_cons.1 hm with rfl|hm
  ·exact h.1
  ·exact wI h.2 hm
variable{P:Program}{GL:List Nat}{B:Bd}
def Ib(K:Rj):Bool:=iR K.newsS&&Ki K.blks.length K.newsS&&yZ K.blks&&yZ K.news&&Nat.beq K.newsS.length K.news.length
def Ia(P:Program)(SP:dC)(n:Nat)(f:FuncId)(K:Rj):Option (Value×List (Option aR)×Bool):=
 (arun P [] SP n f K.args0 (cR (Qh 0 K.blks) K.blks.length)).map fun r=>(r.1,K.newsS.map r.2.get,Ki K.blks.length r.2.log)
theorem dR.memo(hN:eJ P)(hm:P.follows .mixedOrders=true){f:FuncId}(K:Rj){n:Nat}{SP:dC}(hS:∀B,cS P [] B SP)(a3:Ib K=true)
  (a0:Ia P SP n f K=some (K.v0,K.news.map some,true)):dR P GL B f (Kh K):=by
 unfold Ib at a3
 simp only [Bool.and_eq_true,Nat.beq_eq] at a3
 obtain⟨⟨⟨⟨s1,s2⟩,s3⟩,s4⟩,s5⟩:=a3
 unfold Ia at a0
 cases hr:Go.Am.arun P [] SP n f K.args0 (cR (Qh 0 K.blks) K.blks.length) with
 |none=>rw[hr] at a0;cases a0
 |some r=>
  obtain⟨v1,M1⟩:=r
  rw[hr] at a0
  simp only [Option.map_some,Option.some.injEq,Prod.mk.injEq] at a0
  obtain⟨rfl,r2,r3⟩:=a0
  refine dR.ofMut hN hm fun args M v M' hg=>?_
  unfold Kh at hg
  generalize hsrc:vR args=src at hg
  ·cases hc:(iR src&&Og (kV (rH 0 src) args) K.args0&&rZ M src K.blks)<;>simp only [hc,cond_true,cond_false] at hg
   ·cases hg
   ·simp only [Bool.and_eq_true] at hc;obtain⟨⟨c1,c2⟩,c3⟩:=hc;obtain⟨d1,d2⟩:=Ci c3;split at hg
    ·rename_i v2 a4;simp only [Option.some.injEq,Prod.mk.injEq] at hg;obtain⟨rfl,rfl⟩:=hg;have a2:∀(i:Nat) (b:aR),K.news[i]?=some b->∃s:Nat,K.newsS[i]?=some s/\M1.get s=some b:=fun i b hb=>by
      have h1:(K.newsS.map M1.get)[i]?=some (some b):=by rw[r2,List.getElem?_map,hb];rfl
      rw[List.getElem?_map] at h1;cases hs:K.newsS[i]? with
      |none=>rw[hs] at h1;cases h1
      |some s=>rw[hs] at h1;exact⟨s,rfl,by simpa using h1⟩
     refine⟨[],K.news,src,Qh 0 K.blks,n,SP,K.args0,K.v0,M1,[],K.newsS,rfl,⟨hS,by rw[d1];exact hr,c1,fun p hp=>?_,?_,fun t ht a1=>?_,fun j a hj=>?_,fun a ha=>(by cases ha),fun j hj=>(by cases hj),fun a b hab=>(by cases hab),fun i b hb=>?_,s5,s1,fun s hs=>⟨by simp,fun a1=>?_⟩,a4,fun a ha=>(by cases ha)⟩⟩
     ·obtain⟨_,h2⟩:=Kk hp;rw[Nat.sub_zero] at h2;obtain⟨a,h3,h4⟩:=d2 _ _ h2;exact⟨a,p.2,h3,h4,kW _ _ (wI s3 (xAh h2)),rfl⟩
     ·unfold Og at c2;split at c2
      ·rename_i k hk;rw[hk,yJ _ _ c2]
      ·cases c2
     ·have:=zA r3 ht;omega
     ·have a1:j<K.blks.length:=by
       rw[<-d1];rcases Nat.lt_or_ge j src.length with q|q
       ·exact q
       ·rw[List.getElem?_eq_none q] at hj;cases hj
      obtain⟨a',h1,h2⟩:=d2 j _ (xAe a1);rw[hj] at h1;cases h1;exact(cB.1 h2).1
     ·obtain⟨s,h1,h2⟩:=a2 i b hb;refine⟨s,b,h1,h2,⟨[],?_⟩,rfl⟩;rw[List.append_nil];exact kW _ _ (wI s4 (xAh hb))
     ·have:=zA s2 hs;omega
    ·cases hg
end Go.Am
end

noncomputable section
namespace Go.Am
open Go
variable{P:Program}{GL:List Nat}{B:Bd}
structure Mg(P:Program)(f:FuncId)(args:List Value)(M:aB)(v:Value)(olds:List (Nat×Option aR))(news:List aR)(src:List Nat)(l:List (Nat×aR))(n:Nat)(SP:dC)(args0:List Value)(v0:Value)(M0:aB)(keepJ newsS:List Nat):Prop where
 specs:∀B,cS P [] B SP
 run:Ev P [] f args0 (cR l src.length) v0 M0
 dist:iR src=true
 blks:∀p∈l,∃(a:Nat) (c:aR),src[p.1]?=some a/\M.get a=some c/\kV (rH 0 src) c.cs=some p.2.cs/\c={p.2 with cs:=c.cs}
 args:kV (rH 0 src) args=some args0
 wr:∀t∈M0.log,t<src.length->(∃p∈l,p.1=t/\dN p.2)/\∃a:Nat,src[t]?=some a/\a∈olds.map (·.1)
 srcLt:∀(j a:Nat),src[j]?=some a->a<M.next
 oldsIn:∀a:Nat,a∈olds.map (·.1)->∃j:Nat,src[j]?=some a
 keep:∀j∈keepJ,j<src.length
 oldS:∀(a:Nat) (b:aR),(a,some b)∈olds->∃(j:Nat) (b0:aR),j∈keepJ/\src[j]?=some a/\M0.get j=some b0/\(∃r,kV (pH src keepJ++lX M.next newsS) b0.cs=some (b.cs++r))/\b={b0 with cs:=b.cs}
 newS:∀(i:Nat) (b:aR),news[i]?=some b->∃(s:Nat) (b0:aR),newsS[i]?=some s/\M0.get s=some b0/\(∃r,kV (pH src keepJ++lX M.next newsS) b0.cs=some (b.cs++r))/\b={b0 with cs:=b.cs}
 newL:newsS.length=news.length
 newD:iR newsS=true
 newO:∀s∈newsS,s∉keepJ/\(s<src.length->∃a:Nat,src[s]?=some a/\a∈olds.map (·.1))
 val:mP (pH src keepJ++lX M.next newsS) v0=some v
 old0:∀a∈olds.map (·.1),∀c,M.get a=some c->c.wf=0/\(c.app=true\/0<c.cs.length)
theorem Mg.calls(hN:eJ P)(hm:P.follows .mixedOrders=true){f:FuncId}{args:List Value}{M:aB}{v:Value}{a0:List (Nat×Option aR)}{news:List aR}{a4:List Nat}{l:List (Nat×aR)}{n:Nat}{SP:dC}{args0:List Value}{v0:Value}{M0:aB}{b6 newsS:List Nat}
  (hF:Mg P f args M v a0 news a4 l n SP args0 v0 M0 b6 newsS) {φ:dX} {w:World} (hR:hI P GL B φ M w) (hG:jP φ M (M.mut a0 news)) {args':Array Value} (ha:cE φ args args'.toList):
  Calls P f args' w fun e w'=>∃L φ' v',e= .returned v'/\(M.mut a0 news).log=L++M.log/\Post P GL B φ φ' M (M.mut a0 news) L w w'/\bH φ' v v':=by
 have ho:∀a∈a0.map (·.1),a<M.next:=fun a h=>by
  obtain⟨j,hj⟩:=hF.oldsIn a h;exact hF.srcLt j a hj
 let φs:dX:=fun j=>match a4[j]? with
  |some a=>φ a
  |none=>none
 have b9:∀{j a:Nat},a4[j]?=some a->φs j=φ a:=fun hj=>by simp only [φs,hj]
 have c8:∀{j:Nat} {e:pW},φs j=some e->j<a4.length:=fun{j e} h=>by
  by_cases hh:j<a4.length
  ·exact hh
  ·simp only [φs] at h;rw[List.getElem?_eq_none (by omega)] at h;cases h
 have c0:∀s t,jV (rH 0 a4) s=some t->∀e,φ s=some e->φs t=some e:=fun s t h e he=>by
  obtain⟨fl,a3⟩:=rR h;have:=(Dp a3).2;rw[Nat.sub_zero] at this;rw[b9 this];exact he
 have b5:∀{id b},(cR l a4.length).getA id=some b->(id,b)∈l:=fun hb=>lU (bN.1 hb).2.2
 have b4:∀{p:Nat×aR} {c:aR},kV (rH 0 a4) c.cs=some p.2.cs->c={p.2 with cs:=c.cs}->(dN p.2↔dN c):=fun{p c} h1 h2=>by
  unfold dN;have:=fO h1;rw[this,h2]
 have e6:hI P [] B.flat φs (cR l a4.length) w:=by
  refine⟨fun id b hb=>?_,fun a8 d3 b1 b2 e1 e2 b7 c6 c7 hw a6 a7=>?_,fun g hg=>(by cases hg),fun k hk=>Bd.flat_ok.2 (hR.size k hk),fun id b hb=>(bN.1 hb).1,fun x hx=>by cases hx⟩
  ·obtain⟨a,c,h1,h2,h3,h4⟩:=hF.blks _ (b5 hb);simp only at h1 h3 h4;obtain⟨e,he,hr⟩:=hR.blk a c h2;refine⟨e,by rw[b9 h1];exact he,.inl ⟨?_,?_,by rw[fO h3];exact hr.len,fun hw=>Bd.flat_ok.2 (hr.own ?_),fun q1 q2=>hr.whole (by rw[h4];exact q1) fun q3=>q2 (List.eq_nil_of_length_eq_zero (by have:=fO h3;rw[q3] at this;exact this)),hr.real⟩⟩
   ·rw[hr.esz,h4]
   ·obtain⟨cc,lo,hi,k1,k2,k3,k4⟩:=hr.cells;refine⟨cc,lo,hi,by rw[h4] at k1;exact k1,k2,fun j u hu=>?_,fun hw=>?_⟩
    ·obtain⟨u0,q1,q2⟩:=uF h3 hu;obtain⟨u',q3,q4⟩:=k3 j u0 q1;exact⟨u',q3,nQ c0 q4 q2⟩
    ·have:=k4 ((b4 (p:=(id,b)) h3 h4).1 hw);rw[h4] at this;exact this
   ·exact(b4 (p:=(id,b)) h3 h4).1 hw
  ·obtain⟨a1,c1,h1,h2,h3,h4⟩:=hF.blks _ (b5 c6);obtain⟨a2,c2,k1,k2,f1,d8⟩:=hF.blks _ (b5 c7);simp only at h1 h3 h4 k1;rw[b9 h1] at a6;rw[b9 k1] at a7;refine(hR.sep a1 a2 c1 c2 e1 e2 (fun he=>?_) h2 k2 ((b4 (p:=(a8,b1)) h3 h4).1 hw) a6 a7).congr (by rw[h4]) (by rw[d8]) (by rw[fO f1]) (by rw[d8]);subst he;exact b7 (mE hF.dist h1 k1)
 have e7:cE φs args0 args'.toList:=pL c0 ha hF.args
 have e3:jP φs (cR l a4.length) M0:=fun id h1 _=>by
  simp only [φs];rw[List.getElem?_eq_none h1]
 have d0:=hF.run.run B.flat φs w e6 e3 args' e7
 obtain⟨L0,hA⟩:=hF.run.abs
 have e4:M0.log=L0:=by
  have:=hA.log;simpa [cR] using this
 refine d0.mono fun e w' ⟨Ls,φs',v',he,hlog,hp,hv'⟩=>?_
 have e5:M0.log=Ls:=by rw[hlog];simp [cR]
 let mv:=pH a4 b6++lX M.next newsS
 let φ':dX:=fun id=>if id<M.next then φ id else match newsS[id-M.next]? with
  |some s=>φs' s
  |none=>φ id
 have a5:∀{id:Nat},id<M.next->φ' id=φ id:=fun hid=>by simp only [φ'];rw[if_pos hid]
 have c5:∀{id s:Nat},M.next<=id->newsS[id-M.next]?=some s->φ' id=φs' s:=fun{id s} h1 h2=>by
  simp only [φ'];rw[if_neg (by omega),h2]
 have b3:∀{j:Nat},j<a4.length->φs' j=φs j:=fun hj=>hp.ext _ (.inl hj)
 have d7:∀{id:Nat} {b:aR} {e:pW},M.getA id=some b->φ id=some e->e.block<w.heap.size:=fun{id b e} hb he=>by
  obtain⟨e',k1,hr⟩:=hR.blkA id b hb;rw[k1] at he;obtain rfl:=Option.some.inj he;exact hr.lt
 have a9:∀{t:Nat} {e0:pW},t∈Ls->φs t=some e0->∃a c,a4[t]?=some a/\a∈a0.map (·.1)/\M.get a=some c/\dN c/\φ a=some e0:=fun{t e0} ht d5=>by
  obtain⟨⟨p,h1,h2,h3⟩,a,h4,h5⟩:=hF.wr t (by rw[e5];exact ht) (c8 d5);obtain⟨a',c,k1,k2,k3,k4⟩:=hF.blks p h1;rw[h2,h4] at k1;cases k1;exact⟨a,c,h4,h5,k2,(b4 k3 k4).1 h3,by rw[<-b9 h4];exact d5⟩
 have c9:∀{s:Nat} {b0:aR},s<a4.length->M0.get s=some b0->∃a c,a4[s]?=some a/\M.get a=some c/\(dN b0->dN c):=fun{s b0} hs e8=>by
  by_cases hin:s∈M0.log
  ·obtain⟨⟨p,h1,h2,h3⟩,_⟩:=hF.wr s hin hs;obtain⟨a,c,k1,k2,k3,k4⟩:=hF.blks p h1;rw[h2] at k1;exact⟨a,c,k1,k2,fun _=>(b4 k3 k4).1 h3⟩
  ·have hk:=hA.keep s hs (by rw[<-e4];exact hin);have a3:=lU (show(oE l).get s=some b0 by rw[<-(cB.1 e8).2.2.1];exact hk.symm);obtain⟨a,c,k1,k2,k3,k4⟩:=hF.blks _ a3;exact⟨a,c,k1,k2,(b4 (p:=(s,b0)) k3 k4).1⟩
 have f0:∀{t s:Nat} {fl:Bool},(t,s,fl)∈mv->∀e,φs' s=some e->φ' t=some e:=fun{t s fl} a3 e he=>by
  rcases List.mem_append.1 a3 with a3|a3
  ·obtain⟨h1,h2⟩:=zI a3;have hs:=hF.keep s h1;have d2:a4[s]?=some a4[s]:=xAe hs;rw[d2] at h2;simp only [Option.getD_some] at h2;subst h2;rw[b3 hs,b9 d2] at he;have:a4[s]<M.next:=hF.srcLt s _ d2;rw[a5 this];exact he
  ·obtain⟨h1,h2⟩:=zH a3;rw[c5 h1 h2];exact he
 have d6:φ.le φ':=fun id e he=>by
  by_cases h1:id<M.next
  ·rw[a5 h1];exact he
  ·by_cases h2:id<(M.mut a0 news).next
   ·rw[hG id (by omega) h2] at he;cases he
   ·have h3:newsS[id-M.next]?=none:=by
     rw[List.getElem?_eq_none_iff,hF.newL];simp only [aB.mut] at h2;omega
    simp only [φ'];rw[if_neg h1,h3];exact he
 have c3:∀s t,jV mv s=some t->∀e,φs' s=some e->φ' t=some e:=fun s t h e he=>by
  obtain⟨fl,a3⟩:=rR h;exact f0 a3 e he
 have c4:∀{id:Nat} {b:aR},(M.mut a0 news).getA id=some b->(id<M.next/\id∉a0.map (·.1)/\M.getA id=some b)\/
   ∃(s:Nat) (b0:aR),M0.get s=some b0/\(∃r,kV mv b0.cs=some (b.cs++r))/\b={b0 with cs:=b.cs}/\φ' id=φs' s/\((id<M.next/\s∈b6/\a4[s]?=some id/\id∈a0.map (·.1))\/(M.next<=id/\newsS[id-M.next]?=some s)):=fun{id b} hb=>by
  rcases aB.mut_get hb with h|⟨h1,h2⟩|⟨h1,h2⟩
  ·exact .inl h
  ·obtain⟨j,b0,k1,k2,k3,k4,k5⟩:=hF.oldS id b h2;refine .inr ⟨j,b0,k3,k4,k5,?_,.inl ⟨h1,k1,k2,List.mem_map.2 ⟨_,h2,rfl⟩⟩⟩;rw[a5 h1,b3 (hF.keep j k1),b9 k2]
  ·obtain⟨s,b0,k1,k2,k3,k4⟩:=hF.newS _ b h2;exact .inr ⟨s,b0,k2,k3,k4,c5 h1 k1,.inr ⟨h1,k1⟩⟩
 have b8:∀{b b0:aR},(∃r,kV mv b0.cs=some (b.cs++r))->b={b0 with cs:=b.cs}->dN b->dN b0:=fun{b b0} ⟨r,h1⟩ h2 hw=>by
  unfold dN at hw⊢;have:=fO h1;rw[List.length_append] at this;rw[h2] at hw;simp only at hw;rcases hw with hw|hw
  ·exact .inl hw
  ·exact .inr (by omega)
 have d4:∀{a8 s:Nat} {b1 b0:aR} {e1 e2:pW},a8<M.next->a8∉a0.map (·.1)->M.getA a8=some b1->M0.get s=some b0->(s<a4.length->∃a,a4[s]?=some a/\a∈a0.map (·.1))->(dN b1\/dN b0)->φ a8=some e1->φs' s=some e2->e1.block≠e2.block:=fun{a8 s b1 b0 e1 e2} h1 h2 h3 h4 h5 hw a6 a7=>by
  by_cases hs:s<a4.length
  ·obtain⟨a,k1,k2⟩:=h5 hs;obtain⟨a',c,q1,q2,q3⟩:=c9 hs h4;rw[k1] at q1;cases q1;rw[b3 hs,b9 k1] at a7;have b7:a8≠a:=fun he=>h2 (he▸k2)
   rcases hw with hw|hw
   ·obtain⟨z1,z2⟩:=hF.old0 a k2 c q2;exact(hR.sepA a8 a b1 c e1 e2 b7 h3 (gP q2) hw a6 a7).ne (by rw[z1];exact z2)
   ·exact fun he=>(hR.sepA a a8 c b1 e2 e1 (Ne.symm b7) (gP q2) h3 (q3 hw) a7 a6).ne0 (hF.old0 a k2 c q2).1 he.symm
  ·have d1:s<M0.next:=(cB.1 h4).1;rcases hp.newb s e2 (by simpa [cR] using Nat.le_of_not_lt hs) d1 a7 with k1|⟨t,k1,e0,k2,k3⟩
   ·have:=d7 h3 a6;omega
   ·obtain⟨a,c,q1,q2,q3,q4,q5⟩:=a9 k1 k2;have b7:a8≠a:=fun he=>h2 (he▸q2)
    rw[<-k3];exact fun he=>(hR.sepA a a8 c b1 e0 e1 (Ne.symm b7) (gP q3) h3 q4 q5 a6).ne0 (hF.old0 a q2 c q3).1 he.symm
 refine⟨a0.map (·.1),φ',v',he,rfl,⟨fun id hid=>?_,Nat.le_add_right _ _,⟨fun id b hb=>?_,fun a8 d3 b1 b2 e1 e2 b7 c6 c7 hw a6 a7=>?_,fun g hg=>?_,fun k e9=>hR.size k (Nat.le_trans hp.fr.size e9),fun id b hb=>(bN.1 hb).1,fun x hx=>(hR.rnd x hx).step d6 (by
   rcases hp.fr.block x.l (hR.rnd x hx).lt with q|⟨q,_⟩
   ·exact q
   ·exact absurd rfl ((Bd.flat_ok.1 q).2.2 x hx))⟩,
  ⟨hp.fr.os,hp.fr.tape,hp.fr.output,hp.fr.size,fun k hk=>?_⟩,fun id e h1 h2 hid=>?_,fun t ht=>xAf (ho t ht) (Nat.le_add_right _ _)⟩,nQ c3 hv' hF.val⟩
 ·rcases hid with hid|hid
  ·exact a5 hid
  ·have h3:newsS[id-M.next]?=none:=by
    rw[List.getElem?_eq_none_iff,hF.newL];simp only [aB.mut] at hid;omega
   simp only [φ'];simp only [aB.mut] at hid;rw[if_neg (by omega),h3]
 ·rcases c4 hb with⟨h1,h2,h3⟩|⟨s,b0,h1,h2,h3,h4,_⟩
  ·obtain⟨e,k1,hr⟩:=hR.blkA id b h3;refine⟨e,by rw[a5 h1];exact k1,hr.keep d6 ?_⟩;rcases hp.fr.block e.block (d7 h3 k1) with q|⟨_,t,q1,e0,q2,q3⟩
   ·exact q
   ·obtain⟨a,c',r1,r2,r3,r4,r5⟩:=a9 q1 q2;exact absurd q3 ((hR.sepA a id c' b e0 e (fun he=>h2 (he▸r2)) (gP r3) h3 r4 r5 k1).ne0 (hF.old0 a r2 c' r3).1)
  ·obtain⟨e,k1,hr⟩:=hp.rel.blk s b0 h1;refine⟨e,by rw[h4];exact k1,.inl ⟨by rw[h3];exact hr.esz,?_,(by
    obtain⟨r,h2⟩:=h2;have:=fO h2;rw[List.length_append] at this;have:=hr.len;omega),fun hw=>Bd.flat_ok.1 (hr.own (b8 h2 h3 hw)),fun q1 q2=>hr.whole (by rw[h3] at q1;exact q1) fun q3=>q2 (by
     obtain⟨r,h2⟩:=h2;have:=fO h2;rw[q3] at this;exact List.eq_nil_of_length_eq_zero (by simp only [List.length_append,List.length_nil] at this;omega)),hr.real⟩⟩
   obtain⟨c,lo,hi,k2,k3,k4,k5⟩:=hr.cells;refine⟨c,lo,hi,by rw[h3];exact k2,k3,fun j u hu=>?_,fun hw=>?_⟩
   ·obtain⟨r,h2⟩:=h2;obtain⟨u0,q1,q2⟩:=uF h2 (j:=j) (u:=u) (by
     have hj:j<b.cs.length:=by
      by_cases hh:j<b.cs.length
      ·exact hh
      ·rw[List.getElem?_eq_none (by omega)] at hu;cases hu
     rw[List.getElem?_append_left hj];exact hu)
    obtain⟨u',q3,q4⟩:=k4 j u0 q1;exact⟨u',q3,nQ c3 q4 q2⟩
   ·have:=k5 (b8 h2 h3 hw);rw[h3];exact this
 ·rcases c4 c6 with⟨h1,h2,h3⟩|⟨s1,c1,h1,h2,h3,h4,h5⟩<;>rcases c4 c7 with⟨k1,k2,k3⟩|⟨s2,c2,k1,k2,k3,k4,k5⟩
  ·rw[a5 h1] at a6;rw[a5 k1] at a7;exact hR.sepA a8 d3 b1 b2 e1 e2 b7 h3 k3 hw a6 a7
  ·rw[a5 h1] at a6;rw[k4] at a7;refine .inl (d4 h1 h2 h3 k1 (fun hs=>?_) (.inl hw) a6 a7);rcases k5 with⟨_,_,q3,q4⟩|⟨_,q2⟩
   ·exact⟨d3,q3,q4⟩
   ·exact(hF.newO s2 (xAh q2)).2 hs
  ·rw[a5 k1] at a7;rw[h4] at a6;refine .inl (fun he=>d4 k1 k2 k3 h1 (fun hs=>?_) (.inr (b8 h2 h3 hw)) a7 a6 he.symm);rcases h5 with⟨_,_,q3,q4⟩|⟨_,q2⟩
   ·exact⟨a8,q3,q4⟩
   ·exact(hF.newO s1 (xAh q2)).2 hs
  ·rw[h4] at a6;rw[k4] at a7;refine(hp.rel.sep s1 s2 c1 c2 e1 e2 (fun hs=>?_) h1 k1 (b8 h2 h3 hw) a6 a7).less (by rw[h3]) (by rw[k3]) (by
    obtain⟨r,k2⟩:=k2;have:=fO k2;rw[List.length_append] at this;omega) (by rw[k3])
   subst hs;rcases h5 with⟨_,q2,q3,_⟩|⟨q1,q2⟩<;>rcases k5 with⟨_,r2,r3,_⟩|⟨r1,r2⟩
   ·rw[q3] at r3;cases r3;exact b7 rfl
   ·exact(hF.newO s1 (xAh r2)).1 q2
   ·exact(hF.newO s1 (xAh q2)).1 r2
   ·have:=mE hF.newD q2 r2;exact b7 (by omega)
 ·obtain⟨h1,e,h2,h3⟩:=hR.glob g hg;exact⟨xAf h1 (Nat.le_add_right _ _),e,by rw[a5 h1];exact h2,h3⟩
 ·rcases hp.fr.block k hk with h1|⟨h1,t,h2,e0,h3,h4⟩
  ·exact .inl h1
  ·obtain⟨a,c,r1,r2,r3,r4,r5⟩:=a9 h2 h3;exact .inr ⟨Bd.flat_ok.1 h1,a,r2,e0,r5,h4⟩
 ·have d9:M.next<=id:=h1;have h2':id<M.next+news.length:=h2;cases hs:newsS[id-M.next]? with
  |none=>
   rw[List.getElem?_eq_none_iff,hF.newL] at hs
   omega
  |some s=>
   rw[c5 d9 hs] at hid
   have hO:=hF.newO s (xAh hs)
   by_cases hsl:s<a4.length
   ·obtain⟨a,q1,q2⟩:=hO.2 hsl;rw[b3 hsl,b9 q1] at hid;exact .inr ⟨a,q2,e,hid,rfl⟩
   ·have d1:s<M0.next:=by
     obtain⟨s',b0,q1,q2,_⟩:=hF.newS (id-M.next) (news[id-M.next]'(by omega)) (xAe (by omega));rw[hs] at q1;obtain rfl:=Option.some.inj q1;exact(cB.1 q2).1
    rcases hp.newb s e (by simpa [cR] using Nat.le_of_not_lt hsl) d1 hid with q1|⟨t,q1,e0,q2,q3⟩
    ·exact .inl q1
    ·obtain⟨a,c,r1,r2,r3,r4,r5⟩:=a9 q1 q2;exact .inr ⟨a,r2,e0,r5,q3⟩
theorem dR.ofEvMut(hN:eJ P)(hm:P.follows .mixedOrders=true){f:FuncId}{g:List Value->aB->Option (Value×aB)}
  (h:∀args M v M',g args M=some (v,M')->∃a1 news a2 l n SP args0 v0 M0 a0 newsS,M'=M.mut a1 news/\Mg P f args M v a1 news a2 l n SP args0 v0 M0 a0 newsS):dR P GL B f g:=by
 refine⟨fun args M v M' hg=>?_,fun args M v M' hg φ w hR hG args' ha=>?_⟩
 ·obtain⟨a1,news,a2,l,n,SP,args0,v0,M0,a0,newsS,rfl,hF⟩:=h args M v M' hg;exact⟨_,aB.mut_abs fun a ha=>by
   obtain⟨j,hj⟩:=hF.oldsIn a ha;exact hF.srcLt j a hj⟩
 ·obtain⟨a1,news,a2,l,n,SP,args0,v0,M0,a0,newsS,rfl,hF⟩:=h args M v M' hg;exact hF.calls hN hm hR hG ha
end Go.Am
end
