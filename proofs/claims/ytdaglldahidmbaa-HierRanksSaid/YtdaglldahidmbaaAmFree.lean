/-
  Package hier: each of its laws for every argument; no conditions. The last text states which.
-/
import Derived.Test.YtdaglldahidmbaaAmDraw
set_option linter.unusedVariables false
set_option linter.unusedSimpArgs false
noncomputable section
namespace Go.Am
open Go
variable{ro:Option Nat}
variable{P:Program}{GL:List Nat}{B:Bd}{callF:cK}{ops:Array Oper}{before:List Nat}{h0:List (Nat×Nat)}{S:TypeId->Addr->Prop}{st:Nat->St}{ld:Nat->Nat}{N:Nat}
theorem vU{d:Nat}: ∀{l:List Oper} {i:Nat},sR d l i=true-> ∀(j:Nat) (o:Oper),l[j]?=some o->d.testBit (i+j)=true\/rV o=true
 | [],_,_,_,_,h=>by simp at h
 |x::l,i,hc,j,o,h=>by
  simp only [sR,Bool.and_eq_true,Bool.or_eq_true] at hc
  cases j with
  |zero=>simp at h;subst h;exact hc.1
  |succ j=>
   have:=vU hc.2 j o (by simpa using h)
   rwa [show i+1+j=i+(j+1) by omega] at this
theorem Pi{o:Oper}{T:Tr Value}{M M':aA}{k:Nat}{r:AR}(hc:rV o=true)(h:jG P GL callF o T M=some (k,r,M')):
  k=0\/ ∃t x y a v,o.op= .store t x y/\ev GL T x=some (.pointer (some a))/\ev GL T y=some v/\eC P t a v M=some M'/\k=2/\r= .skip:=by
 obtain⟨dst,op,type,pos,after,guard⟩:=o
 unfold jG at h
 split at h
 ·simp at h;exact .inl h.1.symm
 ·replace h:eU P GL callF {dst:=dst,op:=op,type:=type,pos:=pos,after:=after,guard:=guard} T M=some (k,r,M'):=by
   split at h
   ·cases h
   ·exact h
  cases op<;>simp [rV] at hc<;>simp only [eU] at h<;>try (cases h;done)
  right
  split at h<;>try (simp at h;done)
  rename_i a v hx hy
  split at h<;>try (simp at h;done)
  rename_i M1 hs
  simp at h
  obtain⟨rfl,rfl,rfl⟩:=h
  exact⟨_,_,_,a,v,rfl,hx,hy,hs,rfl,rfl⟩
section mem
variable{listed:Array Bool}{φ φ':dC}{w w':World}{m i:Nat}
theorem old4{o:Oper}{k:Nat}(hnl:lJ ops=false){q:Prop}(h:q\/(ld k=1/\ld i=1)\/vH ops o ld k i):q\/(ld k=1/\ld i=1):=by
 rcases h with h|h|h
 ·exact .inl h
 ·exact .inr h
 ·have:=h.1;rw[hnl] at this;cases this
theorem Ll(hnl:lJ ops=false)(hA:bO callF)(R:rJ P GL callF ops before h0 S st ld N)(hle:m<=N)(hall: ∀j,j<N->listed.getD j false=true->ld j≠0->j<m)(hloud: ∀j,j<m->listed.getD j false=false->ld j<=1)
  (hi:i<N) (hun:listed.getD i false=false)
  {deps:Nat} (hdeps: ∀j,deps.testBit j=true->listed.getD j false=true) (hdown: ∀j,j<N->listed.getD j false=true-> ∀d,before[j]?=some d-> ∀k,d.testBit k=true->listed.getD k false=true)
  {H:List (Nat×Nat)} (h1: ∀k,k<i->ld k≠0->deps.testBit k=false-> ∀id,(st k).M.next<=id->id<(st (k+1)).M.next->aZ H id=true)
  (h4: ∀k,k<i->ld k≠0->ld i≠0->deps.testBit k=true\/(ld k=1/\ld i=1)) (hld:ld i≠0):
  ∀id b,({(st i).M with hide:=H++h0}:aA).getA id=some b->(VS st ld h0 m listed).getA id=some b:=by
 have q1: ∀k,m<=k->k<i->ld k<=1:=fun k a b=>by
  rcases Nat.lt_or_ge 1 (ld k) with h|h
  ·rcases h4 k b (by omega) hld with h5|h5
   ·have:=hall k (by omega) (hdeps k h5) (by omega);omega
   ·omega
  ·exact h
 have q2: ∀k,i<k->k<m->ld k<=1:=fun k a b=>by
  rcases Nat.lt_or_ge 1 (ld k) with h|h
  ·have hkN:k<N:=Nat.lt_of_lt_of_le b hle
   cases hk:listed.getD k false
   ·have:=hloud k b hk;omega
   ·obtain⟨_,o,d,_,hb,hcase⟩:=R.steps k hkN
    rcases hcase with⟨_,_,hz⟩|⟨_,r,M',H',_,_,_,_,_,h7⟩|⟨_,_,_,_,_,_,_,_,_,_,hz,_⟩
    ·omega
    ·rcases old4 hnl (h7 i a hld (by omega)) with h8|h8
     ·have:=hdown k hkN hk d hb i h8
      rw[hun] at this;cases this
     ·omega
    ·omega
  ·exact h
 intro id b hb
 obtain⟨a1,a2,a3⟩:=bK.1 hb
 simp only [gW,Bool.or_eq_false_iff] at a1 a2 a3
 have hid:id<(st i).M.next:=a1
 have hbl:(st i).M.blks.get id=some b:=a3
 rw[fL]
 have hown:=R.owner i (by omega) hid
 have hm:id<(st m).M.next/\(id<(st 0).M.next\/ ∃j,j<m/\listed.getD j false=true/\(st j).M.next<=id/\id<(st (j+1)).M.next):=by
  rcases hown with h|⟨j,b1,b2,b3⟩
  ·exact⟨Nat.lt_of_lt_of_le h (R.mono hA 0 m (by omega) hle),.inl h⟩
  ·have hne:=R.quiet hA (by omega) b2 b3
   have hbit:deps.testBit j=true:=by
    cases hb:deps.testBit j
    ·have:=h1 j b1 hne hb id b2 b3
     rw[a2.1] at this;cases this
    ·rfl
   have hD:=hdeps j hbit
   have hjm:=hall j (by omega) hD hne
   exact⟨Nat.lt_of_lt_of_le b3 (R.mono hA (j+1) m (by omega) hle),.inr ⟨j,hjm,hD,b2,b3⟩⟩
 refine⟨hm.1,?_,a2.2,?_⟩
 ·rintro⟨j',c1,c2,c3,c4,c5⟩
  rcases hm.2 with h|⟨j,b1,b2,b3,b4⟩
  ·have:=R.mono hA 0 j' (by omega) (by omega);omega
  ·have:=R.ranges hA (by omega) (by omega) c4 c5 b3 b4
   subst this
   rw[c2] at b2;cases b2
 ·rcases Nat.lt_or_ge i m with h|h
  ·rw[R.keep hA i m (by omega) hle (fun k e1 e2=>by
    by_cases hki:k=i
    ·subst hki;exact hloud k e2 hun
    ·exact q2 k (by omega) e2) id hid]
   exact hbl
  ·rw[<-R.keep hA m i h (by omega) q1 id hm.1]
   exact hbl
def MF(P:Program)(GL:List Nat)(B:Bd)(h0:List (Nat×Nat))(st:Nat->St)(ld:Nat->Nat)(N bf:Nat)(c1:aW):Array Bool->dC->World->Prop:=fun listed φ w=>
 ∃m,m<=N/\(∀j,j<N->listed.getD j false=true->ld j≠0->j<m)/\(∀j,j<m->listed.getD j false=false->ld j<=1)/\gI P GL B φ ((VS st ld h0 m listed).put bf (some c1)) w
theorem uB(hA:bO callF)(R:rJ P GL callF ops before h0 S st ld N)(hle:m<=N){bf:Nat}(hbf:bf<(st 0).M.next)(hh:aZ h0 bf=false):bf<(VS st ld h0 m listed).next/\aZ (VS st ld h0 m listed).hide bf=false:=by
 refine⟨Nat.lt_of_lt_of_le hbf (R.mono hA 0 m (Nat.zero_le _) hle),?_⟩
 show aZ (HS st ld m listed++h0) bf=false
 rw[gW,hh,Bool.or_false]
 cases hq:aZ (HS st ld m listed) bf
 ·rfl
 ·obtain⟨j,c1,_,_,c4,_⟩:=Ej.1 hq
  have:=R.mono hA 0 j (Nat.zero_le _) (by omega)
  omega
end mem
section step
variable{Mm:Array Bool->dC->World->Prop}{Lall:List Nat}{φ0:dC}{w0:World}{a0:Act}{listed:Array Bool}{φ:dC}{a:Act}{w:World}{i:Nat}
theorem Inv.stepF(hnl:lJ ops=false){L0:List Nat}{bf:Nat}{c1:aW}(hNs:N<=ops.size)(hiN:i<N)(hN:dU P)(hC:jH P GL B callF)(hA:bO callF)(hlex:mK ops)(R:rJ P GL callF ops (bD ops.toList []) h0 S st ld N)(hglob: ∀g∈GL,g<(st 0).M.next)
  (hLall:(st N).M.log=L0++(st 0).M.log) (hsubL: ∀t∈L0,t∈Lall) (hbf:bf<(st 0).M.next) (hbh:aZ h0 bf=false) (hbl:bf∉L0) (hcalm: ∀o,ops[i]?=some o->rV o=true)
  (I:Inv P GL B ops h0 st ld N (MF P GL B h0 st ld N bf c1) Lall φ0 w0 a0 listed φ a w) (hi:i∈Region.ready .any ops listed) {Q:Exit->Act->World->Prop} {K:Act->World->Prop}
  (hK: ∀φ' a' w',Inv P GL B ops h0 st ld N (MF P GL B h0 st ld N bf c1) Lall φ0 w0 a0 (listed.setIfInBounds i true) φ' a' w'->K a' w'):wpOpIn (RO ro) 0 P ops Q i K a w:=by
 obtain⟨a9,o,ho,hedges⟩:=mem_ready.1 hi
 have hlt:i<ops.size:=(Array.getElem?_eq_some_iff.1 ho).1
 have hls:i<listed.size:=by rw[I.size];exact hlt
 have hun:listed.getD i false=false:=by simpa [hls] using a9
 have hco:=hcalm o ho
 have hgn:o.guard=none:=by
  simp only [rV,Bool.and_eq_true,Option.isNone_iff_eq_none] at hco
  exact hco.1
 obtain⟨m,hle,hall,hloud,hrel⟩:=I.mem
 have hg:zG GL φ:=fun g hgl=>(hrel.glob g hgl).2
 have hT:fW φ (qA (st i).T (o.looksAt ops)) (st 0).n a.tmps:=⟨I.tsize,fun t v hv=>by
  rw[kV] at hv
  by_cases hm:t∈o.looksAt ops
  ·rw[if_pos hm] at hv
   exact I.slots t v (I.value hNs (Nat.le_of_lt hiN) hlex R ho hun hedges hm hv)
  ·rw[if_neg hm] at hv;cases hv⟩
 have hops: ∀x∈o.op.operands,ev GL (st i).T x=ev GL (qA (st i).T (o.looksAt ops)) x:=fun x hx=>by
  cases x with
  |tmp t=>
   have:t∈o.looksAt ops:=List.mem_append_left _ (List.mem_filterMap.2 ⟨.tmp t,by simpa using hx,rfl⟩)
   simp only [ev,kV,if_pos this]
  |_=>rfl
 have hwt:eK ops (qA (st i).T (o.looksAt ops)) o=some true:=by unfold eK;rw[hgn]
 obtain⟨hh,o',deps,ho',hb,hcase⟩:=R.steps i hiN
 rw[ho] at ho';cases ho'
 have hn:=R.nn i (by omega)
 unfold wpOpIn
 simp only [ho]
 rw[gS hT hwt]
 simp only [if_true]
 have hset: ∀j,(listed.setIfInBounds i true).getD j false=(decide (j=i)||listed.getD j false):=fun j=>hZ hls
 have empty:ld i=0-> ¬ ∃id,(st i).M.next<=id/\id<(st (i+1)).M.next:=fun h0 ⟨id,h1,h2⟩=>R.quiet hA hiN h1 h2 h0
 rcases hcase with⟨hw,_⟩|⟨hw,r,M',H,hop,hput,h1,h2,h3,h4⟩|⟨hw,t,x,ad,v,H,hol,_⟩
 ·unfold eK at hw
  rw[hgn] at hw
  cases hw
 ·by_cases hz:ld i=0
  ·rw[hz] at hop
   have h0':=Hu hop
   rw[uG hops] at h0'
   obtain⟨v,rfl,v',b4,b5⟩:=uH (w:=w) hg hT h0'
   refine Mf b4 ?_
   refine hK φ _ w (I.next hNs hiN hA hlex R ho hun hedges (φ':=φ) (w':=w) (Li:= []) (dC.le_refl φ) ⟨m,hle,fun j hj hD hne=> ?_,fun j hj hD=> ?_,hrel.sub (fun id b hb=> ?_) fun g hg=>(hrel.glob g hg).1⟩ (fun _ _=>rfl) (Fr.refl _ _ _ _) (fun t ht=>by cases ht) (fun id e a b=>absurd ⟨id,a,b⟩ (empty hz)) fun d hd=> ?_)
   ·rw[hset] at hD
    rcases Bool.or_eq_true _ _▸hD with h|h
    ·have:j=i:=by simpa using h
     subst this;omega
    ·exact hall j hj h hne
   ·rw[hset] at hD
    simp only [Bool.or_eq_false_iff,decide_eq_false_iff_not] at hD
    exact hloud j hj hD.2
   ·obtain⟨u1,u2⟩:=uB (listed:=listed.setIfInBounds i true) (m:=m) hA R hle hbf hbh
    obtain⟨u3,u4⟩:=uB (listed:=listed) (m:=m) hA R hle hbf hbh
    rw[kI u1 u2] at hb
    rw[kI u3 u4]
    by_cases hid:id=bf
    ·rw[if_pos hid] at hb⊢;exact hb
    ·rw[if_neg hid] at hb⊢
     obtain⟨a1,a2,a3,a4⟩:=fL.1 hb
     refine fL.2 ⟨a1,?_,a3,a4⟩
     rintro⟨j,c1,c2,c3,c4⟩
     have hji:j≠i:=fun x=>c3 (by rw[x];exact hz)
     exact a2 ⟨j,c1,by rw[hset,c2];simp [hji],c3,c4⟩
   ·obtain⟨q1,q2⟩:=(mS hput).2.2 d hd
    exact⟨by rw[<-hn];exact q1,_,q2,b5⟩
  ·rcases Pi hco hop with h|⟨t,x,y,ad,v,hos,hx,hy,hst,b6,rfl⟩
   ·exact absurd h hz
   replace h4: ∀k,k<i->ld k≠0->ld i≠0->deps.testBit k=true\/(ld k=1/\ld i=1):=fun k a b c=>old4 hnl (h4 k a b c)
   have hH:H= []:=(h2 (by omega)).resolve_right fun x=>by have:=x.1;rw[hnl] at this;cases this
   subst hH
   have hdeps:=nI hlex I.closed (i+1) i (by omega) o ho hedges deps hb
   have hdown: ∀j,j<N->listed.getD j false=true-> ∀d,(bD ops.toList [])[j]?=some d-> ∀k,d.testBit k=true->listed.getD k false=true:=fun j hj hD d hd=>
    nI hlex I.closed (j+1) j (by omega) (ops[j]'(by omega)) (by simp [show j<ops.size by omega]) (I.closed j _ hD (by simp [show j<ops.size by omega])) d hd
   have hin:=Ll hnl hA R hle hall hloud hiN hun hdeps hdown h1 h4 hz
   obtain⟨b,b',hgb,hM',hany⟩:=jK hst
   have hM:(st (i+1)).M={M' with hide:=h0}:=eV hput
   have hMl:(st (i+1)).M.log=ad.block::(st i).M.log:=by rw[hM,hM'];rfl
   have hMn:(st (i+1)).M.next=(st i).M.next:=by rw[hM,hM'];rfl
   have hadL:ad.block∈L0:=by
    obtain⟨A,hAq,_⟩:=R.log hA (i+1) N (by omega) (Nat.le_refl _)
    obtain⟨C,hCq,_⟩:=R.log hA 0 i (by omega) (by omega)
    rw[hMl,hCq,hLall,show ad.block::(C++(st 0).M.log)=(ad.block::C)++(st 0).M.log from rfl,<-List.append_assoc] at hAq
    have:=List.append_cancel_right hAq
    rw[this];simp
   have hne:ad.block≠bf:=fun h=>hbl (h▸hadL)
   have b3:(st 0).M.next<=(st i).M.next:=R.mono hA 0 i (by omega) (by omega)
   have hbi:bf<(st i).M.next:=by omega
   --the memory with the last store done
   let M1:aA:={(st i).M with hide:=h0}
   let M2:aA:=M1.put bf (some c1)
   have hM2g: ∀id,M2.getA id=if id=bf then some c1 else M1.getA id:=fun id=>kI (M:=M1) hbi hbh id
   have a6:M2.get ad.block=some b:=xO (by rw[hM2g,if_neg hne];exact fX hgb) (xN hgb)
   have a8:=hany M2 a6
   obtain⟨u3,u4⟩:=uB (listed:=listed) (m:=m) hA R hle hbf hbh
   have b1:gI P GL B φ M2 w:=hrel.sub (fun id c hc=>by
    rw[hM2g] at hc
    rw[kI u3 u4]
    by_cases hid:id=bf
    ·rw[if_pos hid] at hc⊢;exact hc
    ·rw[if_neg hid] at hc⊢;exact hin id c hc) fun g hg=>Nat.lt_of_lt_of_le (hglob g hg) b3
   have a7:jG P GL callF o (st i).T M2=some (2,.skip,M2.put ad.block (some b')):=xZ hos hx hy a8
   rw[sO hops] at a7
   have hnx:(M2.put ad.block (some b')).next=M2.next:=rfl
   refine Ag hN hC b1 (fun id a1 a2=>absurd a1 (by omega)) hT a7 fun L φ' v' w' hlog hp hr=> ?_
   have hL:L= [ad.block]:=List.append_cancel_right (bs:=M2.log) (by rw[<-hlog];rfl)
   subst hL
   have hφ:φ'=φ:=funext fun id=>hp.ext id (by omega)
   subst hφ
   refine hK φ' _ w' (I.next hNs hiN hA hlex R ho hun hedges (φ':=φ') (w':=w') (Li:= [ad.block]) (dC.le_refl φ') ⟨i+1,hiN,fun j hj hD hne'=> ?_,fun j hj hD=> ?_,hp.rel.sub (fun id c hc=> ?_) fun g hg=> ?_⟩ (fun _ _=>rfl) hp.fr
    (fun t ht=>by simp at ht;subst ht;exact hsubL _ hadL) (fun id e a1 a2=>by omega) fun d hd=> ?_)
   ·rw[hset] at hD
    rcases Bool.or_eq_true _ _▸hD with h|h
    ·have:j=i:=by simpa using h
     omega
    ·have:=hall j hj h hne'
     have hmi:m<=i:=by
      rcases Nat.lt_or_ge i m with h|h
      ·have:=hloud i h hun;omega
      ·exact h
     omega
   ·rw[hset] at hD
    simp only [Bool.or_eq_false_iff,decide_eq_false_iff_not] at hD
    rcases Nat.eq_zero_or_pos (ld j) with hz'|hz'
    ·omega
    ·rcases h4 j (by omega) (by omega) hz with h5|h5
     ·have:=hdeps j h5
      rw[hD.2] at this;cases this
     ·omega
   ·obtain⟨u1,u2⟩:=uB (listed:=listed.setIfInBounds i true) (m:=i+1) hA R hiN hbf hbh
    rw[kI u1 u2] at hc
    have hadv:ad.block<M2.next/\aZ M2.hide ad.block=false:=by
     obtain⟨k1,k2,_⟩:=bK.1 (fX a6)
     exact⟨k1,k2⟩
    rw[kI hadv.1 hadv.2,hM2g]
    by_cases hid:id=bf
    ·rw[if_pos hid] at hc
     rw[if_neg (fun h=>hne (h.symm.trans hid)),if_pos hid];exact hc
    ·rw[if_neg hid] at hc
     obtain⟨a1,a2,a3,a4⟩:=fL.1 hc
     have b2:({M' with hide:=h0}:aA).getA id=some c:=by
      rw[<-hM]
      exact bK.2 ⟨a1,by rw[hM];exact a3,a4⟩
     have a5:M'.getA id=some c:=by
      obtain⟨k1,k2,k3⟩:=bK.1 b2
      exact bK.2 ⟨k1,by rw[hM'];exact k2,k3⟩
     have hpv:((M1.put ad.block (some b')).getA id)=if id=ad.block then some b' else M1.getA id:=kI (M:=M1) (b:=ad.block) (by obtain⟨k1,_,_⟩:=bK.1 (fX hgb);exact k1) (by obtain⟨_,k2,_⟩:=bK.1 (fX hgb);exact k2) id
     have b0:(M1.put ad.block (some b')).getA id=some c:=by rw[hM'] at a5;exact a5
     rw[hpv] at b0
     replace a5:=b0
     by_cases hia:id=ad.block
     ·rw[if_pos hia] at a5⊢;exact a5
     ·rw[if_neg hia] at a5⊢;rw[if_neg hid];exact a5
   ·show g<(st (i+1)).M.next
    exact Nat.lt_of_lt_of_le (hglob g hg) (R.mono hA 0 (i+1) (by omega) hiN)
   ·obtain⟨p1,p2⟩:=(mS hput).2.2 d hd
    refine⟨by rw[<-hn];exact p1,_,p2,?_⟩
    have:v'=undef:=hr
    rw[this];exact bA.refl_flat φ' undef rfl
 ·simp [rV,hol] at hco
theorem Inv.last(hnl:lJ ops=false){bf:Nat}{c1:aW}(hNs:N+1=ops.size)(hN:dU P)(hC:jH P GL B callF)(hA:bO callF)(hlex:mK ops)(R:rJ P GL callF ops (bD ops.toList []) h0 S st ld N)(hglob: ∀g∈GL,g<(st 0).M.next)
  {f:Oper} (hf:ops[N]?=some f) (hfg:f.guard=none) (hfd:f.dst=none) {t:TypeId} {x y:Operand} {ad:Addr} {v:Value} (hfo:f.op= .store t x y) (hx:ev GL (st N).T x=some (.pointer (some ad))) (hy:ev GL (st N).T y=some v)
  (hab:ad.block=bf) (hst:eC P t ad v (st N).M=some ((st N).M.put bf (some c1))) (hstill: ∀k,k<=N->(st k).M.blks.get bf=(st 0).M.blks.get bf) (hbf:bf<(st 0).M.next) (hbh:aZ h0 bf=false) (hbL:bf∈Lall)
  (hput: ∀M2 b,(st N).M.get bf=some b->M2.get bf=some b->eC P t ad v M2=some (M2.put bf (some c1)))
  (I:Inv P GL B ops h0 st ld N (Mv P GL B ops h0 st ld N) Lall φ0 w0 a0 listed φ a w) (hi:N∈Region.ready .any ops listed) {Q:Exit->Act->World->Prop} {K:Act->World->Prop}
  (hK: ∀φ' a' w',Inv P GL B ops h0 st ld N (MF P GL B h0 st ld N bf c1) Lall φ0 w0 a0 (listed.setIfInBounds N true) φ' a' w'->K a' w'):wpOpIn (RO ro) 0 P ops Q N K a w:=by
 obtain⟨a7,o,ho,hedges⟩:=mem_ready.1 hi
 rw[hf] at ho
 obtain rfl:=Option.some.inj ho
 have hlt:N<ops.size:=by omega
 have hls:N<listed.size:=by rw[I.size];exact hlt
 have hun:listed.getD N false=false:=by simpa [hls] using a7
 obtain⟨m,V⟩:=I.mem
 have hT:fW φ (qA (st N).T (f.looksAt ops)) (st 0).n a.tmps:=⟨I.tsize,fun t v hv=>by
  rw[kV] at hv
  by_cases hm:t∈f.looksAt ops
  ·rw[if_pos hm] at hv
   exact I.slots t v (I.value (by omega) (Nat.le_refl _) hlex R hf hun hedges hm hv)
  ·rw[if_neg hm] at hv;cases hv⟩
 have hops: ∀x∈f.op.operands,ev GL (st N).T x=ev GL (qA (st N).T (f.looksAt ops)) x:=fun x hx=>by
  cases x with
  |tmp t=>
   have:t∈f.looksAt ops:=List.mem_append_left _ (List.mem_filterMap.2 ⟨.tmp t,by simpa using hx,rfl⟩)
   simp only [ev,kV,if_pos this]
  |_=>rfl
 have hwt:eK ops (qA (st N).T (f.looksAt ops)) f=some true:=by unfold eK;rw[hfg]
 unfold wpOpIn
 simp only [hf]
 rw[gS hT hwt]
 simp only [if_true]
 obtain⟨u1,u2⟩:=uB (listed:=listed) (m:=m) hA R V.le hbf hbh
 obtain⟨b0,b1,hgb,hM',hany⟩:=jK hst
 rw[hab] at hgb
 have hbl:(st N).M.blks.get bf=some b0:=(bK.1 (fX hgb)).2.2
 have hVg:(VS st ld h0 m listed).get bf=some b0:=xO (bK.2 ⟨u1,u2,by
  show(st m).M.blks.get bf=some b0
  rw[hstill m V.le,<-hstill N (Nat.le_refl _)];exact hbl⟩) (xN hgb)
 have a6:=hput _ b0 hgb hVg
 have a5:jG P GL callF f (st N).T (VS st ld h0 m listed)=some (2,.skip,(VS st ld h0 m listed).put bf (some c1)):=xZ hfo hx hy a6
 rw[sO hops] at a5
 have hnx:((VS st ld h0 m listed).put bf (some c1)).next=(VS st ld h0 m listed).next:=rfl
 have hVr:gI P GL B φ (VS st ld h0 m listed) w:=V.sub (fun _ _ h=> .inl h) fun g hg=>Nat.lt_of_lt_of_le (hglob g hg) (R.mono hA 0 m (Nat.zero_le _) V.le)
 refine Ag hN hC hVr (fun id a1 a2=>absurd a1 (by omega)) hT a5 fun L φ' v' w' hlog hp hr=> ?_
 have hL:L= [bf]:=List.append_cancel_right (bs:=(VS st ld h0 m listed).log) (by rw[<-hlog];rfl)
 subst hL
 have hφ:φ'=φ:=funext fun id=>hp.ext id (by omega)
 subst hφ
 have hset: ∀j,(listed.setIfInBounds N true).getD j false=(decide (j=N)||listed.getD j false):=fun j=>hZ hls
 have hsame: ∀j,j<N->(listed.setIfInBounds N true).getD j false=listed.getD j false:=fun j hj=>by
  rw[hset];simp [show¬j=N by omega]
 refine hK φ' _ w' ⟨by simp [I.size],fun k ok hD hok e he hb=> ?_,by rw[hfd];exact I.tsize,fun t v hs=> ?_,⟨m,V.le,fun j hj hD hne=>(V.all j hj (by rw[<-hsame j hj];exact hD) hne).resolve_right (fun x=>by have:=x.1;rw[hnl] at this;cases this),fun j hj hD=>V.loud j hj (by rw[<-hsame j (by have:=V.le;omega)];exact hD),hp.rel.sub (fun id c hc=> ?_) fun g hg=>(hp.rel.glob g hg).1⟩,
  fun j hj hD id h1 h2=>I.fresh j hj (by rw[<-hsame j hj];exact hD) id h1 h2,I.ext,?_,fun id e h1 h2 he=> ?_,?_⟩
 ·rw[hset] at hD
  have hq:(listed.setIfInBounds N true).getD e.on false=(decide (e.on=N)||listed.getD e.on false):=hset e.on
  rcases Bool.or_eq_true _ _▸hD with h|h
  ·have:k=N:=by simpa using h
   subst this
   rw[hf] at hok
   cases hok
   rw[hq,hedges e he hb];simp
  ·rw[hq,I.closed k ok h hok e he hb];simp
 ·have hs':zP ops st N listed t v:=by
   rcases hs with⟨j,j1,j2,j3,j4,j5⟩|⟨j1,j2⟩
   ·exact .inl ⟨j,j1,by rw[<-hsame j j1];exact j2,j3,fun k hk hD hd=>j4 k hk (by rw[hsame k hk];exact hD) hd,j5⟩
   ·exact .inr ⟨fun k hk hD=>j1 k hk (by rw[hsame k hk];exact hD),j2⟩
  obtain⟨u,v1,v2⟩:=I.slots t v hs'
  exact⟨u,by rw[hfd];exact v1,v2⟩
 ·obtain⟨u3,u4⟩:=uB (listed:=listed.setIfInBounds N true) (m:=m) hA R V.le hbf hbh
  rw[kI u3 u4] at hc
  rw[kI u1 u2]
  by_cases hid:id=bf
  ·rw[if_pos hid] at hc⊢;exact hc
  ·rw[if_neg hid] at hc⊢
   obtain⟨a1,a2,a3,a4⟩:=fL.1 hc
   refine fL.2 ⟨a1,?_,a3,a4⟩
   rintro⟨j,k1,k2,k3⟩
   exact a2 ⟨j,k1,by rw[hsame j (by have:=V.le;omega)];exact k2,k3⟩
 ·refine⟨hp.fr.os.trans I.fr.os,hp.fr.tape.trans I.fr.tape,hp.fr.output.trans I.fr.output,Nat.le_trans I.fr.size hp.fr.size,fun k hk=> ?_⟩
  rcases I.fr.block k hk with e1|h
  ·rcases hp.fr.block k (Nat.lt_of_lt_of_le hk I.fr.size) with e2|⟨hB,t,ht,e,he,hbe⟩
   ·exact .inl (e2.trans e1)
   ·simp at ht;subst ht
    exact .inr ⟨hB,t,hbL,e,by rw[<-I.ext t (.inl hbf)];exact he,hbe⟩
  ·exact .inr h
 ·exact I.newb id e h1 h2 he
 ·rw[hfd];exact I.defers
end step
theorem Tl(hnl:lJ ops=false)(hN:dU P)(hm:P.follows .mixedOrders=true)(hC:jH P GL B callF)(hA:bO callF){id:Nat}{s:St}{φ:dC}{a:Act}{w:World}(hl:kA ops=true)(hNs:N+1=ops.size)
  {bf:Nat} {c1:aW} {f:Oper} (hf:ops[N]?=some f) (hfg:f.guard=none) (hfd:f.dst=none) {t:TypeId} {x y:Operand} {ad:Addr} {v:Value} (hfo:f.op= .store t x y) (hx:ev GL (st N).T x=some (.pointer (some ad))) (hy:ev GL (st N).T y=some v)
  (hab:ad.block=bf) (hst:eC P t ad v (st N).M=some ((st N).M.put bf (some c1))) (hbf:bf<s.M.next)
  (hput: ∀M2 b,(st N).M.get bf=some b->M2.get bf=some b->eC P t ad v M2=some (M2.put bf (some c1)))
  {d:Nat} (hd:(bD ops.toList [])[N]?=some d) (hcalm: ∀i o,i<N->ops[i]?=some o->d.testBit i=true\/rV o=true)
  {L0:List Nat} (hLall:(st N).M.log=L0++s.M.log) (hbl:bf∉L0)
  (hst0:st 0=s) (R:rJ P GL callF ops (bD ops.toList []) s.M.hide S st ld N) (hSt:Hi P S st N) (hstill: ∀k,k<=N->(st k).M.blks.get bf=(st 0).M.blks.get bf)
  (hR:gI P GL B φ s.M w) (hG:iX φ s.M (st N).M) (hT:fW φ s.T s.n a.tmps) {Q:Exit->Act->World->Prop}
  (hk: ∀L φ' a' w',((st N).M.put bf (some c1)).log=L++s.M.log->Post P GL B φ φ' s.M ((st N).M.put bf (some c1)) L w w'->fW φ' (st N).T (st N).n a'.tmps->a'.defers=a.defers->Q .normal a' w'):(Code.region id ops true).wpIn (RO ro) 0 P Q a w:=by
 have hlex:=yR hl
 have hglob: ∀g∈GL,g<(st 0).M.next:=fun g hg=>by rw[hst0];exact(hR.glob g hg).1
 have hsame:mL w {w with drawn:=w.drawn+1}:=⟨rfl,rfl,rfl,rfl⟩
 have a5:bf<(st 0).M.next:=by rw[hst0];exact hbf
 obtain⟨b0,_,hgb,_,_⟩:=jK hst
 rw[hab] at hgb
 have hbh:aZ s.M.hide bf=false:=by
  rw[<-R.hide N (Nat.le_refl _)];exact(bR.1 hgb).2.1
 have hLb: ∀t∈L0,t<(st N).M.next:=by
  obtain⟨A,hAq,hAb⟩:=R.log hA 0 N (Nat.zero_le _) (Nat.le_refl _)
  rw[hLall,hst0] at hAq
  have:=List.append_cancel_right hAq
  rw[this];exact hAb
 have a0:(st N).M.log=L0++(st 0).M.log:=by rw[hst0];exact hLall
 have hbN:bf<(st N).M.next:=(bR.1 hgb).1
 --at the end
 have fin: ∀(listed:Array Bool) φ1 a1 w1,(∀j,j<N->listed.getD j false=true)->Inv P GL B ops s.M.hide st ld N (MF P GL B s.M.hide st ld N bf c1) (bf::L0) φ {w with drawn:=w.drawn+1} a listed φ1 a1 w1->Q .normal a1 w1:=fun listed φ1 a1 w1 hall I=>by
  obtain⟨m,hle,hal,hlo,hrel⟩:=I.mem
  have hpure:(st N).M=(st m).M:=R.pure hA m N hle (Nat.le_refl _) fun k h1 h2=>by
   rcases Nat.eq_zero_or_pos (ld k) with hz|hz
   ·exact hz
   ·have:=hal k h2 (hall k h2) (by omega);omega
  have a6:gI P GL B φ1 ((st N).M.put bf (some c1)) w1:=by
   refine hrel.sub (fun id b hb=> ?_) fun g hg=>Nat.lt_of_lt_of_le (hglob g hg) (R.mono hA 0 N (Nat.zero_le _) (Nat.le_refl _))
   obtain⟨u1,u2⟩:=uB (listed:=listed) (m:=m) hA R hle a5 hbh
   rw[kI hbN (by rw[R.hide N (Nat.le_refl _)];exact hbh)] at hb
   rw[kI u1 u2]
   by_cases hid:id=bf
   ·rw[if_pos hid] at hb⊢;exact hb
   ·rw[if_neg hid] at hb⊢
    obtain⟨b1,b2,b3⟩:=bK.1 hb
    rw[hpure] at b1 b3
    refine fL.2 ⟨b1,?_,?_,b3⟩
    ·rintro⟨j,c1,c2,_⟩
     rw[hall j (by omega)] at c2;cases c2
    ·rw[<-R.hide N (Nat.le_refl _)];exact b2
  have hn:=R.nn N (Nat.le_refl _)
  refine hk (bf::L0) φ1 a1 w1 (by show bf::(st N).M.log=_;rw[hLall];rfl) ⟨fun id hid=> ?_,?_,a6,⟨I.fr.os,I.fr.tape,I.fr.output,I.fr.size,I.fr.block⟩,fun id e h1 h2 he=> ?_,fun t ht=> ?_⟩ ⟨?_,fun t v hv=> ?_⟩ I.defers
  ·exact I.ext id (by rw[hst0];exact hid)
  ·rw[<-hst0];exact R.mono hA 0 N (Nat.zero_le _) (Nat.le_refl _)
  ·exact I.newb id e (by rw[hst0];exact h1) h2 he
  ·show t<(st N).M.next
   rcases List.mem_cons.1 ht with rfl|ht
   ·exact hbN
   ·exact hLb t ht
  ·rw[I.tsize,<-hn]
  ·refine I.slots t v ?_
   rcases R.last t N (Nat.le_refl _) with⟨j,j1,j2,j3,j4⟩|⟨j1,j2⟩
   ·exact .inl ⟨j,j1,hall j j1,j2,fun k hk _ hd=>by
     rcases Nat.lt_or_ge j k with h|h
     ·exact absurd hd (j3 k h hk)
     ·exact h,by rw[<-j4];exact hv⟩
   ·exact .inr ⟨fun k hk _=>j1 k hk,by rw[<-j2];exact hv⟩
 --on the way,behind the store
 have goF: ∀(fuel:Nat) (listed:Array Bool) φ1 a1 w1,listed.toList.count false<=fuel->listed.getD N false=true->Inv P GL B ops s.M.hide st ld N (MF P GL B s.M.hide st ld N bf c1) (bf::L0) φ {w with drawn:=w.drawn+1} a listed φ1 a1 w1->wpAnyIn (RO ro) 0 P .any ops Q fuel listed a1 w1:=by
  intro fuel
  induction fuel with
  |zero=>
   intro listed φ1 a1 w1 hc hNl I
   have hall: ∀j,j<ops.size->listed.getD j false=true:=fun j hj=>by
    have hjs:j<listed.size:=by rw[I.size];exact hj
    have h0:listed.toList.count false=0:=by omega
    have:=List.count_eq_zero.1 h0
    cases hb:listed[j]
    ·exact absurd (by rw[<-hb];simp) this
    ·simp [hjs,hb]
   refine⟨?_,fin listed φ1 a1 w1 (fun j hj=>hall j (by omega)) I⟩
   rw[List.eq_nil_iff_forall_not_mem]
   intro j hj
   obtain⟨h1,o,ho,_⟩:=mem_ready.1 hj
   have hj':=(Array.getElem?_eq_some_iff.1 ho).1
   have hjs:j<listed.size:=by rw[I.size];exact hj'
   have h2:=hall j hj'
   simp [hjs] at h1 h2
   rw[h1] at h2;cases h2
  |succ fuel ih=>
   intro listed φ1 a1 w1 hc hNl I
   refine⟨fun hr=>fin listed φ1 a1 w1 (fun j hj=>vL hlex I.size hr (j+1) j (by omega) (by omega)) I,fun i hi=> ?_⟩
   obtain⟨h1,o,ho,hedges⟩:=mem_ready.1 hi
   have hi':=(Array.getElem?_eq_some_iff.1 ho).1
   have his:i<listed.size:=by rw[I.size];exact hi'
   have hun:listed.getD i false=false:=by simpa [his] using h1
   have hiN:i<N:=by
    rcases Nat.lt_or_ge i N with h|h
    ·exact h
    ·have:i=N:=by omega
     subst this
     rw[hun] at hNl;cases hNl
   refine I.stepF hnl (by omega) hiN hN hC hA hlex R hglob a0 (fun t ht=>List.mem_cons_of_mem _ ht) a5 hbh hbl (fun o' ho'=> ?_) hi fun φ2 a2 w2 I2=>ih _ φ2 a2 w2 ?_ ?_ I2
   ·rcases hcalm i o' hiN ho' with h|h
    ·have:=nI hlex I.closed (N+1) N (by omega) f hf (I.closed N f hNl hf) d hd i h
     rw[hun] at this;cases this
    ·exact h
   ·have:=xI (l:=listed.toList) (i:=i) (by simpa [his] using h1)
    simp only [Array.toList_setIfInBounds]
    omega
   ·rw[hZ his,hNl];simp
 --ahead of it
 have go: ∀(fuel:Nat) (listed:Array Bool) φ1 a1 w1,listed.toList.count false<=fuel->listed.getD N false=false->Inv P GL B ops s.M.hide st ld N (Mv P GL B ops s.M.hide st ld N) (bf::L0) φ {w with drawn:=w.drawn+1} a listed φ1 a1 w1->wpAnyIn (RO ro) 0 P .any ops Q fuel listed a1 w1:=by
  intro fuel
  induction fuel with
  |zero=>
   intro listed φ1 a1 w1 hc hNl I
   exfalso
   have hjs:N<listed.size:=by rw[I.size];omega
   have h0:listed.toList.count false=0:=by omega
   have:=List.count_eq_zero.1 h0
   have hb:listed[N]=false:=by simpa [hjs] using hNl
   exact absurd (by rw[<-hb];simp) this
  |succ fuel ih=>
   intro listed φ1 a1 w1 hc hNl I
   refine⟨fun hr=> ?_,fun i hi=> ?_⟩
   ·have:=vL hlex I.size hr (N+1) N (by omega) (by omega)
    rw[hNl] at this;cases this
   ·obtain⟨h1,o,ho,hedges⟩:=mem_ready.1 hi
    have hi':=(Array.getElem?_eq_some_iff.1 ho).1
    have his:i<listed.size:=by rw[I.size];exact hi'
    have hcnt:=xI (l:=listed.toList) (i:=i) (by simpa [his] using h1)
    by_cases hiN:i=N
    ·subst hiN
     refine I.last hnl hNs hN hC hA hlex R hglob hf hfg hfd hfo hx hy hab hst hstill a5 hbh (List.mem_cons_self ..) hput hi fun φ2 a2 w2 I2=>goF _ _ φ2 a2 w2 ?_ ?_ I2
     ·simp only [Array.toList_setIfInBounds]
      omega
     ·rw[hZ his];simp
    ·refine I.step (by omega) (by omega) hN hC hA hlex R hglob a0 (fun t ht=>List.mem_cons_of_mem _ ht) hSt hi fun φ2 a2 w2 I2=>ih _ φ2 a2 w2 ?_ ?_ I2
     ·simp only [Array.toList_setIfInBounds]
      omega
     ·rw[hZ his,hNl];simp [show¬N=i from fun h=>hiN h.symm]
 refine wpIn_region_any hm (go ops.size (Array.replicate ops.size false) φ a _ (by simp) (by simp [show N<ops.size by omega]) ?_)
 have hun: ∀j,(Array.replicate ops.size false).getD j false=false:=fun j=>by
  by_cases hj:j<ops.size<;>simp [hj]
 refine⟨by simp,fun k o hD=>(by rw[hun] at hD;cases hD),by rw[hst0];exact hT.1,fun t v hs=> ?_,⟨0,Es (st:=st) (ld:=ld) (h0:=s.M.hide) (N:=N) hun ?_⟩,fun j hj _ id h1 h2=> ?_,fun _ _=>rfl,Fr.refl _ _ _ _,fun id e h1 h2 he=> ?_,rfl⟩
 ·rcases hs with⟨j,_,hD,_⟩|⟨_,hv⟩
  ·rw[hun] at hD;cases hD
  ·rw[hst0] at hv;exact hT.2 t v hv
 ·refine(hR.same hsame).sub (fun id b hb=> ?_) hglob
  obtain⟨a1,a2,a3,a4⟩:=fL.1 hb
  rw[hst0] at a1 a4
  exact bK.2 ⟨a1,a3,a4⟩
 ·refine hG id ?_ ?_
  ·rw[<-hst0];exact Nat.le_trans (R.mono hA 0 j (Nat.zero_le _) (by omega)) h1
  ·exact Nat.lt_of_lt_of_le h2 (R.mono hA (j+1) N (by omega) (Nat.le_refl _))
 ·rw[hG id (by rw[<-hst0];exact h1) h2] at he;cases he
theorem yQ{b:Nat}: ∀{l:List Nat},fF b l=false->b∉l
 | [],_,h=>by cases h
 |x::l,h,hm=>by
  simp only [fF,Bool.or_eq_false_iff] at h
  rcases List.mem_cons.1 hm with rfl|hm
  ·exact absurd h.1 (by simp)
  ·exact yQ h.2 hm
theorem Dp{ops:List Oper}{before:List Nat}{f:Oper}(h:kE ops before=some f):
  ∃d,ops[ops.length-1]?=some f/\before[ops.length-1]?=some d/\f.guard=none/\f.dst=none/\sR d ops.dropLast 0=true:=by
 unfold kE at h
 split at h
 ·rename_i f' d hf hd
  cases hq:(fP f'&&f'.guard.isNone&&f'.dst.isNone&&sR d ops.dropLast 0&&(Ft d ops.dropLast 0||xX ops before))<;>simp only [hq,cond_true,cond_false] at h
  ·cases h
  ·cases h
   simp only [Bool.and_eq_true,Option.isNone_iff_eq_none] at hq
   exact⟨d,hf,hd,hq.1.1.1.2,hq.1.1.2,hq.1.2⟩
 ·cases h
theorem My(hN:dU P)(hm:P.follows .mixedOrders=true)(hC:jH P GL B callF)(hA:bO callF){id:Nat}{s s':St}{φ:dC}{a:Act}{w:World}(hl:kA ops=true){f:Oper}(hlf:kE ops.toList (bD ops.toList [])=some f)
  (h:Ad P GL callF ops f s=some s') (hR:gI P GL B φ s.M w) (hG:iX φ s.M s'.M) (hT:fW φ s.T s.n a.tmps) {Q:Exit->Act->World->Prop}
  (hk: ∀L φ' a' w',s'.M.log=L++s.M.log->Post P GL B φ φ' s.M s'.M L w w'->fW φ' s'.T s'.n a'.tmps->a'.defers=a.defers->Q .normal a' w'):(Code.region id ops true).wpIn (RO ro) 0 P Q a w:=by
 obtain⟨d,hf,hd,hfg,hfd,hcalm⟩:=Dp hlf
 unfold Ad at h
 split at h
 ·rename_i s1 S h1
  cases hp:cQ S s1.M.log<;>simp only [hp,cond_true,cond_false] at h
  ·cases h
  ·obtain⟨t,x,y,ad,v,M2,hfo,hx,hy,hst,hlt,hel,rfl⟩:=Il h
   have hsz:0<ops.size:=by
    have:=(List.getElem?_eq_some_iff.1 hf).1
    simp at this;omega
   have hlen:ops.toList.dropLast.length=ops.size-1:=by simp
   obtain⟨g1,_,st,ld,e1,_,e3,e4⟩:=kY (P:=P) (GL:=GL) (ops:=ops) hA ops.toList.dropLast 0 [] [] (eR s) s1 (fun _=>eR s) (fun _=>0) (fun j hj=>by
    rw[hlen] at hj
    rw[List.getElem?_dropLast,if_pos (by simp;omega)]
    simp) h1 rfl (fun d hd=>by cases hd) (fun m hm=>absurd hm (Nat.not_lt_zero _))
   rw[hlen] at e4
   rw[Nat.zero_add,hlen] at e3
   have a0:st 0=eR s:=e1 0 (Nat.le_refl _)
   have R:rJ P GL callF ops (bD ops.toList []) (eR s).M.hide (fun _ a=>a.block∈S) st ld (ops.size-1):=⟨fun j hj=>e4 j (Nat.zero_le _) (by omega),by rw[a0]⟩
   obtain⟨b0,b1,hgb,a2,hany⟩:=jK hst
   have hnl:ad.block∉s1.M.log:=yQ hel
   have a3:ad.block<(st 0).M.next:=by rw[a0];exact hlt
   have hstl:=R.still hA a3 (by rw[e3];exact hnl)
   subst a2
   refine Tl (by simp [lJ,hlf]) (s:=eR s) (N:=ops.size-1) (bf:=ad.block) (c1:=b1) (d:=d) (L0:=s1.M.log) hN hm hC hA hl (by omega) (f:=f) (by simpa using hf) hfg hfd hfo (by rw[e3];exact hx) (by rw[e3];exact hy) rfl (by rw[e3];exact hst) hlt (fun M2 b a1 a4=> ?_) (by simpa using hd) (fun i o hi ho=> ?_) (by rw[e3];show s1.M.log=s1.M.log++ [];simp) hnl a0 R (Hi.of_block fun b hb=> ?_) hstl
    (gI.congr (M1:=s.M) (M2:=(eR s).M) (fun _=>rfl) rfl hR) (fun id h1 h2=>hG id h1 (by rw[e3] at h2;exact h2)) hT fun L φ' a' w' q1 q2 q3 q4=> ?_
   ·rw[e3,hgb] at a1
    cases a1
    exact hany M2 a4
   ·have:=vU hcalm i o (by
     rw[List.getElem?_dropLast,if_pos (by simp;omega)]
     simpa using ho)
    rwa [Nat.zero_add] at this
   ·have hbb:b<(st 0).M.next:=by
     rw[a0]
     rcases g1 b hb with h|h
     ·cases h
     ·exact h
    exact⟨hbb,R.still hA hbb (by rw[e3];exact rR hp b hb)⟩
   ·rw[e3] at q1 q2 q3
    refine hk L φ' a' w' ?_ (Post.congr (M1:=(eR s).M) (M2:=s.M) (M1':=s1.M.put ad.block (some b1)) rfl (fun _=>rfl) rfl q2) q3 q4
    show(s1.M.put ad.block (some b1)).log++s.M.log=L++s.M.log
    rw[q1]
    show(L++ [])++s.M.log=_
    simp
 ·cases h
theorem Mz(hN:dU P)(hm:P.follows .mixedOrders=true)(hC:jH P GL B callF)(hA:bO callF){id:Nat}{s s':St}{φ:dC}{a:Act}{w:World}(hl:kA ops=true)
  (h:nQ P GL callF ops s=some s') (hR:gI P GL B φ s.M w) (hG:iX φ s.M s'.M) (hT:fW φ s.T s.n a.tmps) {Q:Exit->Act->World->Prop}
  (hk: ∀L φ' a' w',s'.M.log=L++s.M.log->Post P GL B φ φ' s.M s'.M L w w'->fW φ' s'.T s'.n a'.tmps->a'.defers=a.defers->Q .normal a' w'):(Code.region id ops true).wpIn (RO ro) 0 P Q a w:=by
 unfold nQ at h
 split at h
 ·rename_i f hlf
  exact My hN hm hC hA hl hlf h hR hG hT hk
 ·exact Kg hN hm hC hA hl h hR hG hT hk
end Go.Am
end
