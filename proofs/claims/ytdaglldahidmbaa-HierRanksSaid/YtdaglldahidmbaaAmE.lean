/-
  Package hier: each of its laws for every argument; no conditions. The last text states which.
-/
import Derived.Test.YtdaglldahidmbaaAmO
import Derived.Test.YtdaglldahidmbaaGAmLoop
import Derived.Test.YtdaglldahidmbaaGAmTop
set_option linter.unusedVariables false
set_option linter.unusedSimpArgs false
noncomputable section
namespace Go.Am
open Go
variable{P:Program}{GL:List Nat}{B:Bd}{SP:cZ}
structure Ev(P:Program)(GL:List Nat)(f:FuncId)(args:List Value)(M:aA)(v:Value)(M':aA):Prop where
 abs: ∃L,kX M M' L
 run: ∀B φ w,gI P GL B φ M w->iX φ M M'-> ∀args':Array Value,bU φ args args'.toList->
  Calls P f args' w fun e w'=> ∃L φ' v',e= .returned v'/\M'.log=L++M.log/\Post P GL B φ φ' M M' L w w'/\bA φ' v v'
theorem Ev.of_arun(hN:dU P)(hm:P.follows .mixedOrders=true)(hS: ∀B,cJ P GL B SP){n:Nat}{f:FuncId}{args:List Value}{M M':aA}{v:Value}(h:arun P GL SP n f args M=some (v,M')):Ev P GL f args M v M':=
 ⟨vP hN hm (hS 0) n f args M v M' h,fun B φ w hR hG args' ha=>qO hN hm (hS B) n h hR hG args' ha⟩
open Classical in
def pick(K:List Value->aA->Value->aA->Prop):List Value->aA->Option (Value×aA):=fun args M=>if h: ∃r:Value×aA,K args M r.1 r.2 then some h.choose else none
theorem Ez{K:List Value->aA->Value->aA->Prop}{args:List Value}{M:aA}(h: ∃v M',K args M v M'): ∃v M',pick K args M=some (v,M')/\K args M v M':=by
 obtain⟨v,M',h⟩:=h
 have h': ∃r:Value×aA,K args M r.1 r.2:=⟨(v,M'),h⟩
 exact⟨h'.choose.1,h'.choose.2,by unfold pick;rw[dif_pos h'],h'.choose_spec⟩
theorem Mq{K:List Value->aA->Value->aA->Prop}{args:List Value}{M M':aA}{v:Value}(h:pick K args M=some (v,M')):K args M v M':=by
 unfold pick at h
 split at h
 ·rename_i h'
  have:=h'.choose_spec
  rw[Option.some.inj h] at this
  exact this
 ·cases h
theorem cV.pick{f:FuncId}{K:List Value->aA->Value->aA->Prop}(hK: ∀args M v M',K args M v M'->Ev P GL f args M v M'):cV P GL B f (Go.Am.pick K):=
 ⟨fun _ _ _ _ h=>(hK _ _ _ _ (Mq h)).abs,fun _ _ _ _ h φ w=>(hK _ _ _ _ (Mq h)).run B φ w⟩
structure Bx(P:Program)(GL:List Nat)(id:Nat)(c:Code)(s:St)(e:cH)(s':St):Prop where
 abs: ∃L,kX s.M s'.M L
 run: ∀B,rN P GL B s s' e fun Q a w=>(Code.block id c).wp P Q a w
open Classical in
def bone(b:QC)(nt:Nat)(ks:List Nat)(vs:List (Option Value))(M:aA)(e:cH)(T':Tr Value)(M':aA):Code->St->Option (cH×St):=fun c s=>
 if comp c=b/\s.n=nt/\ks.map s.T.get=vs/\s.M=M then some (e,⟨T',nt,M'⟩) else none
theorem vI.bone{id:Nat}{b:QC}{nt:Nat}{ks:List Nat}{vs:List (Option Value)}{M M':aA}{e:cH}{T':Tr Value}(h: ∀c T,comp c=b->ks.map T.get=vs->Bx P GL id c ⟨T,nt,M⟩ e ⟨T',nt,M'⟩):vI P GL B id (Go.Am.bone b nt ks vs M e T' M'):=by
 have key: ∀c s e1 s',Go.Am.bone b nt ks vs M e T' M' c s=some (e1,s')->Bx P GL id c s e1 s':=fun c s e1 s' hb=>by
  unfold Go.Am.bone at hb
  split at hb
  ·rename_i hh
   cases hb
   obtain⟨h1,h2,h3,h4⟩:=hh
   have:=h c s.T h1 h3
   rw[<-h4,<-h2] at this
   rw[<-h2]
   exact this
  ·cases hb
 exact⟨fun c s e1 s' hb=>(key c s e1 s' hb).abs,fun c s e1 s' hb=>(key c s e1 s' hb).run B⟩
theorem Ku{l:List (FuncId×(List Value->aA->Option (Value×aA)))}{bl:List (Nat×(Code->St->Option (cH×St)))}{id:Nat}{b:QC}{nt:Nat}{ks:List Nat}{vs:List (Option Value)}{M M':aA}{e:cH}{T':Tr Value}(hb:tP bl id=some (bone b nt ks vs M e T' M')):
  (OQ.blk id b nt ks vs M e T' M').holds P (sM l bl):=by
 refine⟨_,hb,fun c T h1 h2=> ?_⟩
 unfold bone
 rw[if_pos ⟨h1,rfl,h2,rfl⟩]
def fr:List (Nat×Value)->Tr Value
 | []=> .nil
 |p::l=>(fr l).set p.1 (some p.2)
theorem Px: ∀{l:List (Nat×Value)} {t:Nat} {v:Value},(fr l).get t=some v->(t,v)∈l
 | [],t,v,h=>by simp [fr,Tr.get] at h
 |p::l,t,v,h=>by
  simp only [fr,Tr.get_set] at h
  by_cases ht:t=p.1
  ·rw[if_pos ht] at h
   cases h
   rw[ht]
   exact List.mem_cons_self ..
  ·rw[if_neg ht] at h
   exact List.mem_cons_of_mem _ (Px h)
def wV(T1 T2:Tr Value):Prop:= ∀t v,T2.get t=some v->T1.get t=some v
theorem wV.fr{T:Tr Value}: ∀{l:List (Nat×Value)},(l.map (·.1)).map T.get=l.map (fun p=>some p.2)->wV T (Go.Am.fr l):=fun{l} h t v ht=>by
 have hm:=Px ht
 have: ∀(l:List (Nat×Value)),(l.map (·.1)).map T.get=l.map (fun p=>some p.2)-> ∀p∈l,T.get p.1=some p.2:=fun l=>by
  induction l with
  |nil=>intro _ p hp;cases hp
  |cons a l ih=>
   intro h p hp
   simp only [List.map_cons,List.cons.injEq] at h
   rcases List.mem_cons.1 hp with rfl|hp
   ·exact h.1
   ·exact ih h.2 p hp
 exact this l h _ hm
theorem wV.rel{φ:dC}{T1 T2:Tr Value}{n:Nat}{tmps:Array Value}(h:wV T1 T2)(hT:fW φ T1 n tmps):fW φ T2 n tmps:=⟨hT.1,fun t v ht=>hT.2 t v (h t v ht)⟩
def Rd(P:Program)(GL:List Nat)(b:QC)(nt:Nat)(T:Tr Value)(M:aA)(e:cH)(T1:Tr Value)(M1:aA):Prop:=
 ∃SP n,(∀B,cJ P GL B SP)/\ ∀c,comp c=b->Af P GL SP n c ⟨T,nt,M⟩=some (e,⟨T1,nt,M1⟩)
inductive bJ(P:Program)(GL:List Nat)(b:QC)(nt:Nat):Tr Value->aA->cH->Tr Value->aA->Prop where
 |stop {T:Tr Value} {M:aA} {e:cH} {T1:Tr Value} {M1:aA} {T':Tr Value}:Rd P GL b nt T M e T1 M1->e≠ .normal->wV T1 T'->bJ P GL b nt T M e T' M1
 |step {T:Tr Value} {M:aA} {T1:Tr Value} {M1:aA} {T2:Tr Value} {e:cH} {T':Tr Value} {M':aA}:Rd P GL b nt T M .normal T1 M1->wV T1 T2->bJ P GL b nt T2 M1 e T' M'->bJ P GL b nt T M e T' M'
theorem bJ.says(hN:dU P)(hm:P.follows .mixedOrders=true){b:QC}{nt:Nat}{T:Tr Value}{M:aA}{e:cH}{T':Tr Value}{M':aA}(h:bJ P GL b nt T M e T' M'){c:Code}(hc:comp c=b):
  (∃L,kX M M' L)/\e≠ .normal/\ ∀B,∃N,rN P GL B ⟨T,nt,M⟩ ⟨T',nt,M'⟩ e fun Q a w=>Code.rounds P c Q N a w:=by
 induction h with
 |stop hr he hs=>
  rename_i T M e T1 M1 T'
  obtain⟨SP,n,hS,hx⟩:=hr
  refine⟨(rQ hN hm (hS 0) n).abs _ _ _ _ (hx c hc),he,fun B=>⟨0+1,fun φ a w Q hR hG hT hk=> ?_⟩⟩
  show Code.rounds P c Q (0+1) a w
  rw[rounds_succ]
  refine(rQ hN hm (hS B) n).run _ _ _ _ (hx c hc) φ a w _ hR hG hT fun L φ' a' w' h1 h2 h3 h4=> ?_
  have hq:=hk L φ' a' w' h1 h2 (hs.rel h3) h4
  cases e with
  |normal=>exact absurd rfl he
  |exit i=>exact hq
  |ret=>exact hq
  |goto i=>exact hq
 |step hr hs _ ih=>
  rename_i T M T1 M1 T2 e T' M' _
  obtain⟨SP,n,hS,hx⟩:=hr
  obtain⟨⟨L2,a0⟩,he,hsay⟩:=ih
  obtain⟨L1,a1⟩:=(rQ hN hm (hS 0) n).abs _ _ _ _ (hx c hc)
  refine⟨⟨_,a1.trans a0⟩,he,fun B=> ?_⟩
  obtain⟨N,hsay⟩:=hsay B
  refine⟨N+1,fun φ a w Q hR hG hT hk=> ?_⟩
  show Code.rounds P c Q (N+1) a w
  rw[rounds_succ]
  refine(rQ hN hm (hS B) n).run _ _ _ _ (hx c hc) φ a w _ hR (hG.sub a0.next) hT fun L φ' a' w' h1 h2 h3 h4=> ?_
  show Code.rounds P c Q N a' w'
  refine hsay φ' a' w' Q h2.rel (h2.good hG) (hs.rel h3) fun L' φ2 a2 w2 k1 k2 k3 k4=> ?_
  exact hk (L'++L) φ2 a2 w2 (by rw[k1];show L'++M1.log=_;rw[h1,List.append_assoc]) (h2.trans k2) k3 (k4.trans h4)
theorem Bx.loop(hN:dU P)(hm:P.follows .mixedOrders=true){c:Code}{b:QC}{nt id:Nat}{T T0:Tr Value}{M:aA}{e:cH}{T':Tr Value}{M':aA}(hc:comp c=b)(hs:wV T T0)(h:bJ P GL b nt T0 M e T' M'):
  Bx P GL id (.loop c) ⟨T,nt,M⟩ (xC id e) ⟨T',nt,M'⟩:=by
 obtain⟨hA,he,hsay⟩:=h.says hN hm hc
 refine⟨hA,fun B=> ?_⟩
 obtain⟨N,hsay⟩:=hsay B
 intro φ a w Q hR hG hT hk
 refine wp_block (wp_loop_rounds _ (hsay φ a w _ hR hG (hs.rel hT) fun L φ' a' w' h1 h2 h3 h4=> ?_))
 have hq:=hk L φ' a' w' h1 h2 h3 h4
 cases e with
 |normal=>exact absurd rfl he
 |ret=>exact hq
 |goto i=>exact hq
 |exit i=>
  simp only [xC] at hq
  cases hb:Nat.beq i id<;>rw[hb] at hq<;>simp only [cond_true,cond_false] at hq
  ·have hne:i≠id:=by intro x;simp [x] at hb
   simp only [Ps,Exit.inBlock,hne,if_false]
   exact hq
  ·have he:i=id:=Nat.eq_of_beq_eq_true hb
   simp only [Ps,Exit.inBlock,he,if_true]
   exact hq
theorem Nh{c:Code}{b:QC}(h:comp c= .loop b): ∃c',c= .loop c'/\comp c'=b:=by
 cases c with
 |loop c'=>simp only [comp,QC.loop.injEq] at h;exact⟨c',rfl,h⟩
 |region id ops draw=>
  exfalso
  simp only [comp] at h
  cases draw<;>simp only [cond_true,cond_false] at h
  ·cases h
  ·have hdr:Vg ops= .loop b->False:=fun hx=>by unfold Vg at hx;cases hl:kA ops<;>simp only [hl,cond_true,cond_false] at hx<;>cases hx
   unfold Mi at h
   cases hc:(kA ops&&Lo (kH ops.toList (bD ops.toList []) ops.toList (bD ops.toList []) 0))<;>simp only [hc,cond_true,cond_false] at h
   ·exact hdr h
   ·split at h
    ·cases ht:oL ops.toList (bD ops.toList []) 0 []<;>simp only [ht,cond_true,cond_false] at h
     ·exact hdr h
     ·cases h
    ·cases ht:(oL ops.toList.dropLast (bD ops.toList []) 0 []&&Lo (tF ops.toList (bD ops.toList [])))<;>simp only [ht,cond_true,cond_false] at h
     ·exact hdr h
     ·unfold Ld at h
      split at h<;>cases h
 |skip=>cases h
 |seq a b=>cases h
 |cond x a b=>cases h
 |block i b=>cases h
 |exit i=>cases h
 |ret=>cases h
 |label l=>cases h
 |goto l=>cases h
 |scope c=>cases h
 |rangeFunc _ _ _ _=>cases h
 |refuse _=>cases h
theorem vI.loop(hN:dU P)(hm:P.follows .mixedOrders=true){id:Nat}{b:QC}{nt:Nat}{l:List (Nat×Value)}{M M':aA}{e:cH}{T':Tr Value}(h:bJ P GL b nt (Go.Am.fr l) M e T' M'):
  vI P GL B id (Go.Am.bone (.loop b) nt (l.map (·.1)) (l.map fun p=>some p.2) M (xC id e) T' M'):=
 vI.bone fun c T h1 h2=>by
  obtain⟨c',rfl,hc⟩:=Nh h1
  exact Bx.loop hN hm hc (wV.fr h2) h
theorem Ar.told(hN:dU P)(hm:P.follows .mixedOrders=true){f:FuncId}{fn:Func}{q:QC}{tb:List Nat}{n:Nat}{args:List Value}{M M':aA}{v:Value}{F:List OF}{e:cH}{qs:qH}
  (hf:P.funcs[f]?=some fn) (hq:aL P f=some q) (hl:Nat.ble args.length fn.ntmps=true) (hS: ∀B,cJ P GL B SP) (hB: ∀id,fF id tb=false->SP.blocks id=none)
  (hx:(oX P GL tb n fn.ntmps q (mO args 0 .nil) M F 0).map (fun r=>(r.1.1,lB P fn ⟨r.1.2.1,fn.ntmps,r.1.2.2⟩,r.1.2.2,r.2.2.2))=some (e,some v,M',qs)) (he:e= .ret\/e= .normal) (hh:gJ P SP qs):
  arun P GL SP n f args M=some (v,M'):=by
 cases hr:oX P GL tb n fn.ntmps q (mO args 0 .nil) M F 0 with
 |none=>rw[hr] at hx;cases hx
 |some r=>
  obtain⟨⟨e1,T1,M1⟩,F1,k1,q1⟩:=r
  rw[hr] at hx
  simp only [Option.map_some,Option.some.injEq,Prod.mk.injEq] at hx
  obtain⟨rfl,hv,rfl,rfl⟩:=hx
  unfold aL at hq
  rw[hf] at hq
  cases hb:fn.body with
  |none=>simp [hb] at hq
  |some c=>
   simp [hb] at hq
   rw[<-hq] at hr
   have hx:=sF hN hm hB hS n _ _ _ _ _ _ _ _ _ _ _ _ hr hh
   show lX P (Af P GL SP n) f args M=_
   unfold lX
   simp only [hf,hb,hl,cond_true,hx]
   rcases he with rfl|rfl<;>simp only [hv]
theorem Ev.told(hN:dU P)(hm:P.follows .mixedOrders=true){f:FuncId}{fn:Func}{q:QC}{tb:List Nat}{n:Nat}{args:List Value}{M M':aA}{v:Value}{F:List OF}{e:cH}{qs:qH}
  (hf:P.funcs[f]?=some fn) (hq:aL P f=some q) (hl:Nat.ble args.length fn.ntmps=true) (hS: ∀B,cJ P GL B SP) (hB: ∀id,fF id tb=false->SP.blocks id=none)
  (hx:(oX P GL tb n fn.ntmps q (mO args 0 .nil) M F 0).map (fun r=>(r.1.1,lB P fn ⟨r.1.2.1,fn.ntmps,r.1.2.2⟩,r.1.2.2,r.2.2.2))=some (e,some v,M',qs)) (he:e= .ret\/e= .normal) (hh:gJ P SP qs):
  Ev P GL f args M v M':=Ev.of_arun hN hm hS (Ar.told hN hm hf hq hl hS hB hx he hh)
theorem Rd.told(hN:dU P)(hm:P.follows .mixedOrders=true){b:QC}{tb:List Nat}{n nt:Nat}{T:Tr Value}{M M':aA}{F:List OF}{e:cH}{qs:qH}{ks:List Nat}{vs:List (Option Value)}
  (hS: ∀B,cJ P GL B SP) (hB: ∀id,fF id tb=false->SP.blocks id=none)
  (hx:(oX P GL tb n nt b T M F 0).map (fun r=>(r.1.1,ks.map r.1.2.1.get,r.1.2.2,r.2.2.2))=some (e,vs,M',qs)) (hh:gJ P SP qs):
  ∃T1,Rd P GL b nt T M e T1 M'/\ks.map T1.get=vs:=by
 cases hr:oX P GL tb n nt b T M F 0 with
 |none=>rw[hr] at hx;cases hx
 |some r=>
  obtain⟨⟨e1,T1,M1⟩,F1,k1,q1⟩:=r
  rw[hr] at hx
  simp only [Option.map_some,Option.some.injEq,Prod.mk.injEq] at hx
  obtain⟨rfl,hv,rfl,rfl⟩:=hx
  refine⟨T1,⟨SP,n,hS,fun c hc=> ?_⟩,hv⟩
  rw[<-hc] at hr
  exact sF hN hm hB hS n _ _ _ _ _ _ _ _ _ _ _ _ hr hh
theorem Uy{K:List Value->aA->Value->aA->Prop}{f:FuncId}{args:List Value}{M M':aA}{v:Value}(hs:SP.calls f=some (pick K))(hp:pick K args {M with log:= []}=some (v,M'))(hl:jZ M.next M'.log= []):
  OQ.holds P SP (.cl f args M (1,.val v,{M' with log:=M.log,hide:=M.hide})):=by
 refine⟨?_,by simp⟩
 unfold kC iW fI
 rw[hs]
 simp only [hp,hl]
structure Ext(M M':aA):Prop where
 next:M.next<=M'.next
 hide:M'.hide=M.hide
 get: ∀id,id<M.next->M'.get id=M.get id
 log: ∃L,M'.log=L++M.log/\ ∀t∈L,M.next<=t
theorem Ext.refl(M:aA):Ext M M:=⟨Nat.le_refl _,rfl,fun _ _=>rfl,[],rfl,fun t h=>by cases h⟩
theorem Ext.trans{M M1 M2:aA}(h:Ext M M1)(k:Ext M1 M2):Ext M M2:=
 ⟨Nat.le_trans h.next k.next,k.hide.trans h.hide,fun id hid=>(k.get id (Nat.lt_of_lt_of_le hid h.next)).trans (h.get id hid),by
  obtain⟨L1,h1,h2⟩:=h.log
  obtain⟨L2,k1,k2⟩:=k.log
  exact⟨L2++L1,by rw[k1,h1,List.append_assoc],fun t ht=>by
   rcases List.mem_append.1 ht with ht|ht
   ·exact Nat.le_trans h.next (k2 t ht)
   ·exact h2 t ht⟩⟩
theorem Ext.old{M M':aA}(h:Ext M M'){id:Nat}{b:aW}(hg:M.get id=some b):M'.get id=some b:=by
 rw[h.get id (bR.1 hg).1];exact hg
theorem Aj{n:Nat}: ∀{l:List Nat},(∀t∈l,n<=t)->jZ n l= []
 | [],_=>rfl
 |x::l,h=>by
  unfold jZ
  have:Nat.blt x n=false:=by
   cases hb:Nat.blt x n
   ·rfl
   ·have:=Nat.le_of_ble_eq_true hb
    have:=h x (List.mem_cons_self ..)
    omega
  rw[this]
  exact Aj fun t ht=>h t (List.mem_cons_of_mem _ ht)
def back(M M':aA):aA:={M' with log:=M.log,hide:=M.hide}
theorem Ib{M M':aA}(h:M'.hide=M.hide)(id:Nat):(back M M').get id=M'.get id:=by
 unfold back aA.get aA.getA
 simp only [h]
theorem Ext.back{M M':aA}(h:Ext {M with log:= []} M'):Ext M (Go.Am.back M M'):=
 ⟨h.next,rfl,fun id hid=>by rw[Ib (M:=M) (M':=M') h.hide];exact h.get id hid,[],rfl,fun t h=>by cases h⟩
def aB(M:aA):Prop:= ∀id,aZ M.hide id=true->id<M.next
theorem lY{M:aA}(h:aB M)(b:aW)(hb:dD b=false:=by rfl):(M.alloc b).get M.next=some b:=
 xO (bK.2 ⟨Nat.lt_succ_self _,by
  cases hh:aZ M.hide M.next with
  |false=>exact hh
  |true=>exact absurd (h _ hh) (Nat.lt_irrefl _),by simp only [aA.alloc];rw[Tr.get_set,if_pos rfl]⟩) hb
theorem Ed{M:aA}(b:aW){id:Nat}(hid:id<M.next):(M.alloc b).get id=M.get id:=by
 unfold aA.get aA.getA
 have h1:Nat.blt id (M.alloc b).next=true:=Nat.ble_eq_true_of_le (by show id+1<=M.next+1;omega)
 have h2:Nat.blt id M.next=true:=Nat.ble_eq_true_of_le hid
 rw[h1,h2]
 simp only [aA.alloc]
 rw[Tr.get_set,if_neg (by omega)]
theorem Ext.alloc(M:aA)(b:aW):Ext M (M.alloc b):=⟨Nat.le_succ _,rfl,fun id hid=>Ed b hid,[],rfl,fun t h=>by cases h⟩
theorem Jj{M:aA}{id:Nat}(b:Option aW)(h:id<M.next)(hh:aZ M.hide id=false):(M.put id b).get id=Mc b:=by
 unfold aA.get aA.getA aA.put
 simp only
 rw[show Nat.blt id M.next=true from Nat.ble_eq_true_of_le h,hh]
 simp only [Bool.not_false,Bool.and_true,cond_true]
 rw[Tr.get_set,if_pos rfl]
theorem sY{M:aA}{id j:Nat}(b:Option aW)(h:j≠id):(M.put id b).get j=M.get j:=by
 unfold aA.get aA.getA aA.put
 simp only
 rw[Tr.get_set,if_neg h]
theorem Ext.put{M0 M:aA}(h:Ext M0 M){id:Nat}(b:Option aW)(hid:M0.next<=id):Ext M0 (M.put id b):=
 ⟨h.next,h.hide,fun j hj=>by rw[sY b (by omega)];exact h.get j hj,by
  obtain⟨L,h1,h2⟩:=h.log
  exact⟨id::L,by show id::M.log=_;rw[h1];rfl,fun t ht=>by
   rcases List.mem_cons.1 ht with rfl|ht
   ·exact hid
   ·exact h2 t ht⟩⟩
theorem lZ{t:TypeId}{a:Addr}{M:aA}{b:aW}{n:Nat}{l:List Value}(hd:(P.underlying t).map dX=some true)(hi:(P.info? t).map (·.size)=some n)(hg:M.get a.block=some b)(ht:dA n (b.cs.drop a.off)=some l):aX P t a M=some (.agg l.toArray):=by
 unfold aX
 cases hu:P.underlying t with
 |none=>rw[hu] at hd;cases hd
 |some d=>
  rw[hu] at hd
  simp only [Option.map_some,Option.some.injEq] at hd
  cases hj:P.info? t with
  |none=>rw[hj] at hi;cases hi
  |some i=>
   rw[hj] at hi
   simp only [Option.map_some,Option.some.injEq] at hi
   simp only [hg,hd,cond_true,hi,ht]
theorem bW{t:TypeId}{a:Addr}{M:aA}{b:aW}{v:Value}(hd:(P.underlying t).map dX=some false)(hg:M.get a.block=some b)(hc:b.cs[a.off]?=some v):aX P t a M=some v:=by
 unfold aX
 cases hu:P.underlying t with
 |none=>rw[hu] at hd;cases hd
 |some d=>
  rw[hu] at hd
  simp only [Option.map_some,Option.some.injEq] at hd
  simp only [hg,hd,cond_false,hc]
theorem Nd{t:TypeId}{a:Addr}{v:Value}{M:aA}{b:aW}{n:Nat}(hi:(P.info? t).map (·.size)=some n)(hg:M.get a.block=some b)(hv:v.cells.toList.length=n)(hc:v.cells.toList.all isCell=true)(hw:b.wf<=a.off)(hl:a.off+n<=b.cs.length):
  eC P t a v M=some (M.put a.block (some {b with cs:=splice b.cs a.off v.cells.toList})):=by
 unfold eC
 cases hj:P.info? t with
 |none=>rw[hj] at hi;cases hi
 |some i=>
  rw[hj] at hi
  simp only [Option.map_some,Option.some.injEq] at hi
  simp only [hg,hv,hi,hc,Bool.and_true]
  rw[show Nat.beq n n=true by simp,Nat.ble_eq_true_of_le hw,Nat.ble_eq_true_of_le hl]
  rfl
end Go.Am
end
noncomputable section
namespace Go.Am
open Go
variable{P:Program}{GL:List Nat}{B:Bd}
end Go.Am
end
