/-
  Package hier: each of its laws for every argument; no conditions. The last text states which.
-/
import Derived.Test.YtdaglldahidmbaaAmFree
import Derived.LoopN
import Derived.Scope
set_option linter.unusedVariables false
set_option linter.unusedSimpArgs false
noncomputable section
namespace Go.Am
open Go
variable{ro:Option Nat}
variable{P:Program}{GL:List Nat}{B:Bd}
def Ps:cH->Exit
 | .normal=> .normal
 | .exit id=> .exit id
 | .ret=> .ret
 | .goto l=> .goto l
def rN(P:Program)(GL:List Nat)(B:Bd)(s s':St)(e:cH)(X:(Exit->Act->World->Prop)->Act->World->Prop):Prop:=
 ∀φ a w Q,gI P GL B φ s.M w->iX φ s.M s'.M->fW φ s.T s.n a.tmps->
  (∀L φ' a' w',s'.M.log=L++s.M.log->Post P GL B φ φ' s.M s'.M L w w'->fW φ' s'.T s'.n a'.tmps->a'.defers=a.defers->Q (Ps e) a' w')->X Q a w
structure zY(ro:Option Nat)(P:Program)(GL:List Nat)(B:Bd)(ih:Code->St->Option (cH×St)):Prop where
 abs: ∀c s e s',ih c s=some (e,s')-> ∃L,kX s.M s'.M L
 run: ∀c s e s',ih c s=some (e,s')->rN P GL B s s' e fun Q a w=>c.wpIn (RO ro) 0 P Q a w
 loop: ∀b s e s',ih (.loop b) s=some (e,s')-> ∃n,rN P GL B s s' e fun Q a w=>Code.roundsIn (RO ro) 0 P b Q n a w
theorem rN.trans{s s1 s2:St}{e:cH}{X Y:(Exit->Act->World->Prop)->Act->World->Prop}(hn:s1.M.next<=s2.M.next)(h:rN P GL B s s1 .normal X)(k:rN P GL B s1 s2 e Y)
  {Z:(Exit->Act->World->Prop)->Act->World->Prop} (hz: ∀Q a w,X (Exit.then (fun a w=>Y Q a w) Q) a w->Z Q a w):rN P GL B s s2 e Z:=by
 intro φ a w Q hR hG hT hk
 refine hz Q a w (h φ a w _ hR (hG.sub hn) hT fun L1 φ1 a1 w1 a0 a4 a5 a7=> ?_)
 show Y Q a1 w1
 refine k φ1 a1 w1 Q a4.rel (a4.good hG) a5 fun L2 φ2 a2 w2 a3 a9 a6 a8=> ?_
 exact hk (L2++L1) φ2 a2 w2 (by rw[a3,a0,List.append_assoc]) (a4.trans a9) a6 (a8.trans a7)
theorem uD{ih:Code->St->Option (cH×St)}(h: ∀c s e s',ih c s=some (e,s')-> ∃L,kX s.M s'.M L):bO (lX P ih):=by
 intro f args M v M' hc
 unfold lX at hc
 split at hc
 ·split at hc
  ·rename_i c _
   generalize Nat.ble _ _=q at hc
   cases q<;>simp only [cond_true,cond_false] at hc
   ·simp at hc
   ·split at hc
    ·rename_i s hr
     split at hc
     ·simp at hc;obtain⟨_,rfl⟩:=hc;exact h _ _ _ _ hr
     ·simp at hc
    ·rename_i s hr
     split at hc
     ·simp at hc;obtain⟨_,rfl⟩:=hc;exact h _ _ _ _ hr
     ·simp at hc
    ·simp at hc
  ·simp at hc
 ·simp at hc
theorem Em: ∀(l:List Value) (i:Nat) (T:Tr Value) (t:Nat),(mO l i T).get t=if i<=t/\t<i+l.length then l[t-i]? else T.get t
 | [],i,T,t=>by simp [mO];intro h1 h2;omega
 |v::l,i,T,t=>by
  simp only [mO]
  rw[Em l (i+1),Tr.get_set]
  simp only [List.length_cons]
  by_cases h:t=i
  ·subst h;simp;intro h1;omega
  ·by_cases h2:i+1<=t/\t<i+1+l.length
   ·rw[if_pos h2,if_pos (by omega),show t-i=(t-(i+1))+1 by omega];simp
   ·rw[if_neg h2,if_neg h,if_neg (by omega)]
theorem Nr{φ:dC}{args:List Value}{args':Array Value}(h:bU φ args args'.toList){n:Nat}(hn:args.length<=n):fW φ (mO args 0 .nil) n (args'++Array.replicate (n-args'.size) undef):=by
 have hl:=h.length
 simp only [Array.length_toList] at hl
 refine⟨by simp;omega,fun t v hv=> ?_⟩
 rw[Em] at hv
 by_cases ht:0<=t/\t<0+args.length
 ·rw[if_pos ht] at hv
  obtain⟨v',h1,h2⟩:=h.get (by simpa using hv)
  exact⟨v',by rw[Array.getElem?_append_left (by omega)];simpa using h1,h2⟩
 ·rw[if_neg ht] at hv
  simp [Tr.get] at hv
def Oj(tmps:Array Value):ResultVar->Sem Value
 | .tmp t=>pure (tmps.getD t undef)
 | .cell x t=>do loadVar t (<-asAddr (tmps.getD x undef))
theorem Cm(fn:Func)(tmps:Array Value):results fn tmps=(do
  let vs<-fn.results.mapM (Oj tmps)
  pure (if h:vs.size=1 then vs[0] else .tuple vs)):=by
 unfold results
 congr 1
theorem Mb{φ:dC}{s:St}{a:Act}{w:World}(hR:gI P GL B φ s.M w)(hT:fW φ s.T s.n a.tmps){r:ResultVar}{v:Value}(h:Hx P s r=some v):
  ∃v',(Oj a.tmps r).run P w= .ok v' w/\bA φ v v':=by
 unfold Hx at h
 split at h
 ·rename_i t
  obtain⟨v',h1,h2⟩:=hT.2 _ _ h
  exact⟨v',by simp [Oj,Array.getD_eq_getD_getElem?,h1],h2⟩
 ·rename_i x t
  split at h
  ·rename_i ad hx
   obtain⟨v',h1,h2⟩:=hT.2 _ _ hx
   obtain⟨ad',rfl,_⟩:=h2.ptr_inv
   obtain⟨u,e1,e2⟩:=Br hR h2 h
   refine⟨u,?_,e2⟩
   simp only [Instr.loadAt,Instr.sureAddr,Sem.run_bind,Sem.run_pure,Result.andThen_ok] at e1
   simp [Oj,Array.getD_eq_getD_getElem?,h1,asAddr,e1]
  ·simp at h
theorem Cl{φ:dC}{s:St}{a:Act}{w:World}(hR:gI P GL B φ s.M w)(hT:fW φ s.T s.n a.tmps): ∀{l:List ResultVar} {vs:List Value},yJ P s l=some vs->
  ∃vs':List Value,(l.mapM (Oj a.tmps)).run P w= .ok vs' w/\bU φ vs vs'
 | [],vs,h=>by simp [yJ] at h;subst h;exact⟨[],by simp,.nil⟩
 |r::l,vs,h=>by
  simp only [yJ] at h
  split at h
  ·rename_i v vs1 h1 h2
   simp at h;subst h
   obtain⟨v',e1,e2⟩:=Mb hR hT h1
   obtain⟨vs',e3,e4⟩:=Cl hR hT h2
   refine⟨v'::vs',?_,.cons e2 e4⟩
   rw[List.mapM_cons]
   simp only [Sem.run_bind]
   rw[e1]
   simp only [Result.andThen_ok,e3,Sem.run_pure]
  ·simp at h
theorem Du{φ:dC}{s:St}{a:Act}{w:World}(hR:gI P GL B φ s.M w)(hT:fW φ s.T s.n a.tmps){fn:Func}{v:Value}(h:lB P fn s=some v):
  ∃v',(results fn a.tmps).run P w= .ok v' w/\bA φ v v':=by
 unfold lB at h
 have hm: ∀vs,yJ P s fn.results.toList=some vs-> ∃vs':List Value,(fn.results.mapM (Oj a.tmps)).run P w= .ok vs'.toArray w/\bU φ vs vs':=fun vs hvs=>by
  obtain⟨vs',e1,e2⟩:=Cl hR hT hvs
  refine⟨vs',?_,e2⟩
  rw[Array.mapM_eq_mapM_toList]
  simp only [Sem.run_map,e1,Result.andThen_ok]
 split at h
 ·rename_i u hu
  simp at h;subst h
  obtain⟨vs',e1,e2⟩:=hm _ hu
  cases e2 with
  |cons e2 e3=>
   cases e3
   rename_i u'
   refine⟨u',?_,e2⟩
   rw[Cm,Sem.run_bind,e1]
   simp
 ·rename_i vs hne hu
  simp at h;subst h
  obtain⟨vs',e1,e2⟩:=hm _ hu
  refine⟨.tuple vs'.toArray,?_,bA.tuple' e2⟩
  rw[Cm,Sem.run_bind,e1]
  have hl:=e2.length
  have: ¬vs'.toArray.size=1:=by
   intro hx
   have hx':vs.length=1:=by simpa [hl] using hx
   match vs,hx' with
   | [x],_=>exact hne x rfl
  simp only [Result.andThen_ok,this,dite_false,Sem.run_pure]
 ·simp at h
theorem Eb{ih:Code->St->Option (cH×St)}(hN:dU P)(h:zY none P GL B ih):jH P GL B (lX P ih):=by
 intro f args M v M' hc
 obtain⟨L0,habs⟩:=uD (P:=P) h.abs f args M v M' hc
 refine⟨habs.hide,fun φ w hR hG args' ha=> ?_⟩
 unfold lX at hc
 split at hc
 ·rename_i fn hf
  split at hc
  ·rename_i c hb
   cases hq:Nat.ble args.length fn.ntmps<;>simp only [hq,cond_true,cond_false] at hc
   ·simp at hc
   ·have hlen:args.length<=fn.ntmps:=Nat.le_of_ble_eq_true hq
    have fin: ∀(e:cH) (s:St),(e= .normal\/e= .ret)->ih c ⟨mO args 0 .nil,fn.ntmps,M⟩=some (e,s)->lB P fn s=some v->s.M=M'->
      rK P φ f args' w fun e w'=> ∃L φ' v',e= .returned v'/\M'.log=L++M.log/\Post P GL B φ φ' M M' L w w'/\bA φ' v v':=fun e s he hr hres hM=>by
     subst hM
     have hsz:f<YB:=Nat.lt_of_lt_of_le (Array.getElem?_eq_some_iff.1 hf).1 hN.1
     refine⟨fun _=> ?_,fun r en h1=>absurd hsz (by rw[h1];exact Nat.not_lt.2 (Nat.le_add_right _ _))⟩
     refine calls_of_wp hf hb (wpIn_wide.1<|h.run _ _ _ _ hr φ _ w _ hR hG (Nr ha hlen) fun L φ' a' w' hlog hp hT hd=> ?_)
     obtain⟨v',e1,e2⟩:=Du hp.rel hT hres
     rcases he with rfl|rfl<;>exact⟨hd,v',e1,L,φ',v',rfl,hlog,hp,e2⟩
    split at hc
    ·rename_i s hr
     split at hc
     ·rename_i v1 a0
      simp at hc
      obtain⟨rfl,hM⟩:=hc
      exact fin _ s (.inl rfl) hr a0 hM
     ·simp at hc
    ·rename_i s hr
     split at hc
     ·rename_i v1 a0
      simp at hc
      obtain⟨rfl,hM⟩:=hc
      exact fin _ s (.inr rfl) hr a0 hM
     ·simp at hc
    ·simp at hc
  ·simp at hc
 ·simp at hc
structure cJ(P:Program)(GL:List Nat)(B:Bd)(SP:cZ):Prop where
 abs: ∀f g,SP.calls f=some g-> ∀args M v M',g args M=some (v,M')-> ∃L,kX M M' L
 blkAbs: ∀id g,SP.blocks id=some g-> ∀b s e s',g b s=some (e,s')-> ∃L,kX s.M s'.M L
 blkRun: ∀id g,SP.blocks id=some g-> ∀b s e s',g b s=some (e,s')->rN P GL B s s' e fun Q a w=>(Code.block id b).wp P Q a w
 run: ∀f g,SP.calls f=some g-> ∀args M v M',g args M=some (v,M')-> ∀φ w,gI P GL B φ M w->iX φ M M'-> ∀args':Array Value,bU φ args args'.toList->
  rK P φ f args' w fun e w'=> ∃L φ' v',e= .returned v'/\M'.log=L++M.log/\Post P GL B φ φ' M M' L w w'/\bA φ' v v'
theorem cJ.none:cJ P GL B zV:=⟨fun f g h=>(by cases h),fun f g h=>(by cases h),fun f g h=>(by cases h),fun f g h=>(by cases h)⟩
theorem wS{SP:cZ}{callF:cK}(hS:cJ P GL B SP)(h:bO callF):bO (fI SP callF):=by
 intro f args M v M' hc
 unfold fI at hc
 split at hc
 ·rename_i g hg;exact hS.abs f g hg args M v M' hc
 ·exact h f args M v M' hc
theorem Ka{SP:cZ}{callF:cK}(hS:cJ P GL B SP)(h:jH P GL B callF):jH P GL B (fI SP callF):=by
 intro f args M v M' hc
 unfold fI at hc
 split at hc
 ·rename_i g hg
  obtain⟨L,hL⟩:=hS.abs f g hg args M v M' hc
  exact⟨hL.hide,hS.run f g hg args M v M' hc⟩
 ·exact h f args M v M' hc
theorem Jw{b:Frame}{a:Act}{k:List Item}{cs:List Frame}{w:World}{c:Code}:step P (lone (b.atR a (.code (.scope c)::k)) cs w)= .next (lone (b.atR a (.code c:: .inScope c::k)) cs w):=
 step_lone_go (by simp [stepG,stepG.exec,Frame.atR])
theorem Dx{b:Frame}{a:Act}{k:List Item}{cs:List Frame}{w:World}{c:Code}:step P (lone (b.atR a (.inScope c::k)) cs w)= .next (lone (b.atR a k) cs w):=
 step_lone_go (by simp [stepG,stepG.exec,Frame.atR])
theorem Tj(ro:Option Nat)(n:Nat):(RO ro).room n:=fun _ h=>by simp [RO,Fence.wide] at h
theorem Mh(ro:Option Nat){fr:Frame}{cs:List Frame}{w:World}:(lone fr cs w).fenced P (RO ro):=fenced_wide P _
def wpS(ro:Option Nat)(P:Program)(c d:Code)(Q:Exit->Act->World->Prop)(a:Act)(w:World):Prop:=
 ∀(b:Frame) k cs,b.roundOf=ro-> ∃e a' w',Q e a' w'/\ArrivesIn (Machine.fenced P (RO ro)) P (lone (b.atR a (.code d:: .inScope c::k)) cs w) b k cs e a' w'
def Exit.into(ro:Option Nat)(P:Program)(c:Code)(Q:Exit->Act->World->Prop):Exit->Act->World->Prop
 | .goto l,a,w=>match findLabel c l with
  |some rest=>wpS ro P c rest Q a w
  |none=>Q (.goto l) a w
 |e,a,w=>Q e a w
theorem Mg{c d:Code}{Q:Exit->Act->World->Prop}{a:Act}{w:World}(h:d.wpIn (RO ro) 0 P (Exit.into ro P c Q) a w):wpS ro P c d Q a w:=by
 intro b k cs hro
 obtain⟨e,a₁,w₁,hq,harr⟩:=h b (.inScope c::k) cs hro trivial (Tj _ _)
 cases e with
 |normal=>exact⟨.normal,a₁,w₁,hq,StepsIn.trans harr (.one (Mh ro) Dx)⟩
 |exit id=>exact⟨.exit id,a₁,w₁,hq,fun k' hk=>harr.1 k' (by simp [exitTo,hk]),fun hr hk=>harr.2 hr (by simp [exitTo,hk])⟩
 |goto l=>
  simp only [Exit.into] at hq
  split at hq
  ·rename_i rest hf
   obtain⟨e₂,a₂,w₂,hq₂,harr₂⟩:=hq b k cs hro
   exact⟨e₂,a₂,w₂,hq₂,.of_steps (harr.1 _ (by simp [gotoIn,hf])) harr₂⟩
  ·rename_i hf
   exact⟨.goto l,a₁,w₁,hq,fun k' hk=>harr.1 k' (by simp [gotoIn,hf,hk]),fun hr hk=>harr.2 hr (by simp [gotoIn,hf,hk])⟩
 |ret=>exact⟨_,a₁,w₁,hq,harr⟩
 |panic ch=>exact⟨_,a₁,w₁,hq,harr⟩
 |outgrown=>exact⟨_,a₁,w₁,hq,harr⟩
theorem Kc{c:Code}{Q:Exit->Act->World->Prop}{a:Act}{w:World}(h:wpS ro P c c Q a w):(Code.scope c).wpIn (RO ro) 0 P Q a w:=by
 intro b k cs hro _ _
 obtain⟨e,a₁,w₁,hq,harr⟩:=h b k cs hro
 exact⟨e,a₁,w₁,hq,.of_steps (.one (Mh ro) Jw) harr⟩
theorem uI{ih:Code->St->Option (cH×St)}(h: ∀c s e s',ih c s=some (e,s')-> ∃L,kX s.M s'.M L)(c:Code): ∀(n:Nat) (d:Code) (s:St) (e:cH) (s':St),rS ih c n d s=some (e,s')-> ∃L,kX s.M s'.M L
 |0,d,s,e,s',hs=>by cases hs
 |n+1,d,s,e,s',hs=>by
  unfold rS at hs
  split at hs
  ·rename_i l s1 h1
   split at hs
   ·obtain⟨L1,a1⟩:=h _ _ _ _ h1
    obtain⟨L2,a2⟩:=uI h c n _ _ _ _ hs
    exact⟨_,a1.trans a2⟩
   ·cases hs;exact h _ _ _ _ h1
  ·exact h _ _ _ _ hs
theorem yK{ih:Code->St->Option (cH×St)}(h:zY ro P GL B ih)(c:Code): ∀(n:Nat) (d:Code) (s:St) (e:cH) (s':St),rS ih c n d s=some (e,s')->rN P GL B s s' e fun Q a w=>wpS ro P c d Q a w
 |0,d,s,e,s',hs=>by cases hs
 |n+1,d,s,e,s',hs=>by
  unfold rS at hs
  split at hs
  ·rename_i l s1 h1
   split at hs
   ·rename_i rest hf
    have hn:=(uI h.abs c n _ _ _ _ hs).choose_spec.next
    have b0:=yK h c n _ _ _ _ hs
    intro φ a w Q hR hG hT hk
    refine Mg (h.run _ _ _ _ h1 φ a w _ hR (hG.sub hn) hT fun L1 φ1 a1 w1 a0 a3 a4 a5=> ?_)
    show Exit.into ro P c Q (.goto l) a1 w1
    simp only [Exit.into,hf]
    refine b0 φ1 a1 w1 Q a3.rel (a3.good hG) a4 fun L2 φ2 a2 w2 a6 a9 a7 a8=> ?_
    exact hk (L2++L1) φ2 a2 w2 (by rw[a6,a0,List.append_assoc]) (a3.trans a9) a7 (a8.trans a5)
   ·rename_i hf
    cases hs
    intro φ a w Q hR hG hT hk
    refine Mg (h.run _ _ _ _ h1 φ a w _ hR hG hT fun L1 φ1 a1 w1 a0 a3 a4 a5=> ?_)
    show Exit.into ro P c Q (.goto l) a1 w1
    simp only [Exit.into,hf]
    exact hk L1 φ1 a1 w1 a0 a3 a4 a5
  ·rename_i r hne
   intro φ a w Q hR hG hT hk
   refine Mg (h.run _ _ _ _ hs φ a w _ hR hG hT fun L1 φ1 a1 w1 a0 a3 a4 a5=> ?_)
   cases e with
   |normal=>exact hk L1 φ1 a1 w1 a0 a3 a4 a5
   |exit i=>exact hk L1 φ1 a1 w1 a0 a3 a4 a5
   |ret=>exact hk L1 φ1 a1 w1 a0 a3 a4 a5
   |goto l=>exact absurd hs (hne l s')
theorem Ia(hN:dU P)(hm:P.follows .mixedOrders=true){SP:cZ}(hS:cJ P GL B SP){ih:Code->St->Option (cH×St)}(hro:ro=none\/ ∀id,SP.blocks id=none)(hf:zY none P GL B ih)(h:zY ro P GL B ih):zY ro P GL B (pQ P GL SP ih):=by
 have hC:=Ka hS (Eb hN hf)
 have hA:=wS (P:=P) (GL:=GL) (B:=B) hS (uD (P:=P) h.abs)
 have hrun: ∀c s e s',pQ P GL SP ih c s=some (e,s')->rN P GL B s s' e fun Q a w=>c.wpIn (RO ro) 0 P Q a w:=by
  intro c s e s' hs
  unfold pQ at hs
  split at hs
  ·simp at hs
   obtain⟨rfl,rfl⟩:=hs
   exact fun φ a w Q hR hG hT hk=>wpIn_skip (hk [] φ a w rfl (Post.refl hR) hT rfl)
  ·rename_i id ops draw
   cases draw<;>simp only [cond_true,cond_false] at hs
   ·split at hs
    ·rename_i s1 h1
     simp at hs
     obtain⟨rfl,rfl⟩:=hs
     intro φ a w Q hR hG hT hk
     refine wpIn_region ?_
     rw[List.range_eq_range']
     have:=Fw (ro:=ro) (ops:=ops) hN hC hA (Q:=Q) ops.toList 0 s s1 φ a w (fun j=>by simp) h1 hR hG hT hk
     simpa using this
    ·simp at hs
   ·cases hl:kA ops<;>simp only [hl,cond_true,cond_false] at hs
    ·simp at hs
    ·split at hs
     ·rename_i s1 h1
      simp at hs
      obtain⟨rfl,rfl⟩:=hs
      intro φ a w Q hR hG hT hk
      exact Mz hN hm hC hA hl h1 hR hG hT hk
     ·simp at hs
  ·rename_i x y
   split at hs
   ·rename_i s1 h1
    exact rN.trans (h.abs _ _ _ _ hs).choose_spec.next (h.run _ _ _ _ h1) (h.run _ _ _ _ hs) fun Q a w hx=>wpIn_seq hx
   ·rename_i r hne
    cases a0:ih x s with
    |none=>rw[a0] at hs;cases hs
    |some r=>
     rw[a0] at hs
     cases hs
     intro φ a w Q hR hG hT hk
     refine wpIn_seq (h.run _ _ _ _ a0 φ a w _ hR hG hT fun L φ' a' w' h1 h2 h3 h4=> ?_)
     cases e with
     |normal=>exact absurd a0 (hne s')
     |exit i=>exact hk L φ' a' w' h1 h2 h3 h4
     |ret=>exact hk L φ' a' w' h1 h2 h3 h4
     |goto i=>exact hk L φ' a' w' h1 h2 h3 h4
  ·rename_i c x y
   split at hs
   ·rename_i t hc
    intro φ a w Q hR hG hT hk
    have hg:zG GL φ:=fun g hgl=>(hR.glob g hgl).2
    have:=(bM (a:=a) hg hT hc).bool_inv
    refine wpIn_cond this ?_
    cases t<;>exact h.run _ _ _ _ hs φ a w Q hR hG hT hk
   ·cases hs
  ·rename_i id b
   split at hs
   ·rename_i g hg
    rcases hro with rfl|hro
    ·exact fun φ a w Q hR hG hT hk=>wpIn_wide.2 (hS.blkRun id g hg b s e s' hs φ a w Q hR hG hT hk)
    ·rw[hro] at hg;cases hg
   ·rename_i hg
    split at hs
    ·rename_i i s1 h1
     have hM:s1=s':=by
      cases hb:Nat.beq i id<;>simp only [hb,cond_true,cond_false] at hs<;>(cases hs;rfl)
     subst hM
     intro φ a w Q hR hG hT hk
     refine wpIn_block (h.run _ _ _ _ h1 φ a w _ hR hG hT fun L φ' a' w' q1 q2 q3 q4=> ?_)
     cases hb:Nat.beq i id<;>simp only [hb,cond_true,cond_false] at hs
     ·cases hs
      have hne:i≠id:=by intro x;simp [x] at hb
      simp only [Ps,Exit.inBlock,hne,if_false]
      exact hk L φ' a' w' q1 q2 q3 q4
     ·cases hs
      have he:i=id:=Nat.eq_of_beq_eq_true hb
      simp only [Ps,Exit.inBlock,he,if_true]
      exact hk L φ' a' w' q1 q2 q3 q4
    ·rename_i r hne
     cases a0:ih b s with
     |none=>rw[a0] at hs;cases hs
     |some r=>
      rw[a0] at hs
      cases hs
      intro φ a w Q hR hG hT hk
      refine wpIn_block (h.run _ _ _ _ a0 φ a w _ hR hG hT fun L φ' a' w' h1 h2 h3 h4=> ?_)
      cases e with
      |normal=>exact hk L φ' a' w' h1 h2 h3 h4
      |exit i=>exact absurd a0 (hne i s')
      |ret=>exact hk L φ' a' w' h1 h2 h3 h4
      |goto i=>exact hk L φ' a' w' h1 h2 h3 h4
  ·rename_i b
   split at hs
   ·rename_i s1 h1
    obtain⟨n,hn⟩:=h.loop _ _ _ _ hs
    exact rN.trans (h.abs _ _ _ _ hs).choose_spec.next (h.run _ _ _ _ h1) hn fun Q a w hx=>wpIn_loop_rounds (n+1) hx
   ·rename_i r hne
    cases a0:ih b s with
    |none=>rw[a0] at hs;cases hs
    |some r=>
     rw[a0] at hs
     cases hs
     intro φ a w Q hR hG hT hk
     refine wpIn_loop_rounds 1 (h.run _ _ _ _ a0 φ a w _ hR hG hT fun L φ' a' w' h1 h2 h3 h4=> ?_)
     cases e with
     |normal=>exact absurd a0 (hne s')
     |exit i=>exact hk L φ' a' w' h1 h2 h3 h4
     |ret=>exact hk L φ' a' w' h1 h2 h3 h4
     |goto i=>exact hk L φ' a' w' h1 h2 h3 h4
  ·simp at hs
   obtain⟨rfl,rfl⟩:=hs
   exact fun φ a w Q hR hG hT hk=>wpIn_exit (hk [] φ a w rfl (Post.refl hR) hT rfl)
  ·simp at hs
   obtain⟨rfl,rfl⟩:=hs
   exact fun φ a w Q hR hG hT hk=>wpIn_ret (hk [] φ a w rfl (Post.refl hR) hT rfl)
  ·simp at hs
   obtain⟨rfl,rfl⟩:=hs
   exact fun φ a w Q hR hG hT hk=>wpIn_label (hk [] φ a w rfl (Post.refl hR) hT rfl)
  ·simp at hs
   obtain⟨rfl,rfl⟩:=hs
   exact fun φ a w Q hR hG hT hk=>wpIn_goto (hk [] φ a w rfl (Post.refl hR) hT rfl)
  ·exact fun φ a w Q hR hG hT hk=>Kc (yK h _ _ _ _ _ _ hs φ a w Q hR hG hT hk)
  ·cases hs
 refine⟨?_,hrun,?_⟩
 ·intro c s e s' hs
  unfold pQ at hs
  split at hs
  ·simp at hs;obtain⟨_,rfl⟩:=hs;exact⟨_,kX.refl _⟩
  ·rename_i id ops draw
   cases draw<;>simp only [cond_true,cond_false] at hs
   ·split at hs
    ·rename_i s1 h1
     simp at hs;obtain⟨_,rfl⟩:=hs
     exact vR hA _ _ _ h1
    ·simp at hs
   ·cases hl:kA ops<;>simp only [hl,cond_true,cond_false] at hs
    ·simp at hs
    ·split at hs
     ·rename_i s1 h1
      simp at hs;obtain⟨_,rfl⟩:=hs
      exact Ki hA h1
     ·simp at hs
  ·split at hs
   ·rename_i s1 h1
    obtain⟨L1,a1⟩:=h.abs _ _ _ _ h1
    obtain⟨L2,a2⟩:=h.abs _ _ _ _ hs
    exact⟨_,a1.trans a2⟩
   ·exact h.abs _ _ _ _ hs
  ·split at hs
   ·exact h.abs _ _ _ _ hs
   ·cases hs
  ·split at hs
   ·rename_i g hg
    exact hS.blkAbs _ g hg _ _ _ _ hs
   ·rename_i hg
    split at hs
    ·rename_i i s1 h1
     generalize Nat.beq i _=q at hs
     cases q<;>simp only [cond_true,cond_false] at hs
     all_goals (simp at hs;obtain⟨_,rfl⟩:=hs;exact h.abs _ _ _ _ h1)
    ·exact h.abs _ _ _ _ hs
  ·split at hs
   ·rename_i s1 h1
    obtain⟨L1,a1⟩:=h.abs _ _ _ _ h1
    obtain⟨L2,a2⟩:=h.abs _ _ _ _ hs
    exact⟨_,a1.trans a2⟩
   ·exact h.abs _ _ _ _ hs
  ·simp at hs;obtain⟨_,rfl⟩:=hs;exact⟨_,kX.refl _⟩
  ·simp at hs;obtain⟨_,rfl⟩:=hs;exact⟨_,kX.refl _⟩
  ·simp at hs;obtain⟨_,rfl⟩:=hs;exact⟨_,kX.refl _⟩
  ·simp at hs;obtain⟨_,rfl⟩:=hs;exact⟨_,kX.refl _⟩
  ·exact uI h.abs _ _ _ _ _ _ hs
  ·cases hs
 ·intro b s e s' hs
  simp only [pQ] at hs
  split at hs
  ·rename_i s1 h1
   obtain⟨n,hn⟩:=h.loop _ _ _ _ hs
   exact⟨n+1,rN.trans (h.abs _ _ _ _ hs).choose_spec.next (h.run _ _ _ _ h1) hn fun Q a w hx=>hx⟩
  ·rename_i r hne
   cases a0:ih b s with
   |none=>rw[a0] at hs;cases hs
   |some r=>
    rw[a0] at hs
    cases hs
    refine⟨1,fun φ a w Q hR hG hT hk=> ?_⟩
    refine h.run _ _ _ _ a0 φ a w _ hR hG hT fun L φ' a' w' h1 h2 h3 h4=> ?_
    cases e with
    |normal=>exact absurd a0 (hne s')
    |exit i=>exact hk L φ' a' w' h1 h2 h3 h4
    |ret=>exact hk L φ' a' w' h1 h2 h3 h4
    |goto i=>exact hk L φ' a' w' h1 h2 h3 h4
theorem wY(hN:dU P)(hm:P.follows .mixedOrders=true){SP:cZ}(hS:cJ P GL B SP)(hro:ro=none\/ ∀id,SP.blocks id=none): ∀n,zY none P GL B (Af P GL SP n)/\zY ro P GL B (Af P GL SP n)
 |0=>⟨⟨fun c s e s' h=>(by cases h),fun c s e s' h=>(by cases h),fun b s e s' h=>(by cases h)⟩,⟨fun c s e s' h=>(by cases h),fun c s e s' h=>(by cases h),fun b s e s' h=>(by cases h)⟩⟩
 |n+1=>by
  obtain⟨h1,h2⟩:=wY hN hm hS hro n
  exact⟨Ia hN hm hS (.inl rfl) h1 h1,Ia hN hm hS hro h1 h2⟩
structure Uq(P:Program)(GL:List Nat)(B:Bd)(ih:Code->St->Option (cH×St)):Prop where
 abs: ∀c s e s',ih c s=some (e,s')-> ∃L,kX s.M s'.M L
 run: ∀c s e s',ih c s=some (e,s')->rN P GL B s s' e fun Q a w=>c.wp P Q a w
 loop: ∀b s e s',ih (.loop b) s=some (e,s')-> ∃n,rN P GL B s s' e fun Q a w=>Code.rounds P b Q n a w
theorem wK{b:Code}{Q:Exit->Act->World->Prop}: ∀(n:Nat) (a:Act) (w:World),Code.roundsIn (RO none) 0 P b Q n a w->Code.rounds P b Q n a w
 |0,_,_,h=>h
 |n+1,a,w,h=>by
  refine(wpIn_wide (n:=0)).1 (wpIn_mono h fun e a' w' hq=> ?_)
  cases e with
  |normal=>exact wK n a' w' hq
  |_=>exact hq
theorem rQ(hN:dU P)(hm:P.follows .mixedOrders=true){SP:cZ}(hS:cJ P GL B SP)(n:Nat):Uq P GL B (Af P GL SP n):=by
 have h:=(wY hN hm hS (ro:=none) (.inl rfl) n).1
 refine⟨h.abs,fun c s e s' hs φ a w Q hR hG hT hk=>wpIn_wide.1 (h.run c s e s' hs φ a w Q hR hG hT hk),fun b s e s' hs=> ?_⟩
 obtain⟨m,hm⟩:=h.loop b s e s' hs
 exact⟨m,fun φ a w Q hR hG hT hk=>wK m a w (hm φ a w Q hR hG hT hk)⟩
theorem Sb(hN:dU P)(hm:P.follows .mixedOrders=true){SP:cZ}(hS:cJ P GL B SP)(n:Nat):jH P GL B (arun P GL SP n):=Eb hN (wY hN hm hS (ro:=none) (.inl rfl) n).1
theorem qO(hN:dU P)(hm:P.follows .mixedOrders=true){SP:cZ}(hS:cJ P GL B SP)(n:Nat){f:FuncId}{args:List Value}{M M':aA}{v:Value}(h:arun P GL SP n f args M=some (v,M')){φ:dC}{w:World}
  (hR:gI P GL B φ M w) (hG:iX φ M M') (args':Array Value) (ha:bU φ args args'.toList):
  Calls P f args' w fun e w'=> ∃L φ' v',e= .returned v'/\M'.log=L++M.log/\Post P GL B φ φ' M M' L w w'/\bA φ' v v':=by
 refine((Sb hN hm hS n f args M v M' h).2 φ w hR hG args' ha).1 ?_
 unfold arun lX at h
 split at h
 ·rename_i fn hf
  exact Nat.lt_of_lt_of_le (Array.getElem?_eq_some_iff.1 hf).1 hN.1
 ·cases h
theorem vP(hN:dU P)(hm:P.follows .mixedOrders=true){SP:cZ}(hS:cJ P GL B SP)(n:Nat):bO (arun P GL SP n):=uD (rQ hN hm hS n).abs
end Go.Am
end
