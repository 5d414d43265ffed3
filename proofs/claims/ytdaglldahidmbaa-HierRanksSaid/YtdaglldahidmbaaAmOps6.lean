/-
  Package hier: each of its laws for every argument; no conditions. The last text states which.
-/
import Derived.Test.YtdaglldahidmbaaAmMaps
import Derived.RangeFuncSeq
import Derived.OrdersIn
import Derived.LoopNIn
set_option linter.unusedVariables false
set_option linter.unusedSimpArgs false
noncomputable section
namespace Go.Am
open Go
variable{P:Program}{GL:List Nat}{B:Bd}{φ:dC}{M M':aA}{w:World}{T:Tr Value}{n:Nat}{a:Act}
def RO(ro:Option Nat):Fence:={Fence.wide with round:=ro}
theorem Dz(ro:Option Nat)(f:FuncId):(RO ro).fn f:=trivial
variable{ro:Option Nat}
def rK(P:Program)(φ:dC)(f:FuncId)(args:Array Value)(w:World)(R:Ending->World->Prop):Prop:=
 (f<YB->Calls P f args w R)/\(∀r e,f=YB+r->φ r=some e->YieldAt Fence.wide 0 P e.block args w R)
def jH(P:Program)(GL:List Nat)(B:Bd)(callF:cK):Prop:=
 ∀f args M v M',callF f args M=some (v,M')->M'.hide=M.hide/\ ∀φ w,gI P GL B φ M w->iX φ M M'-> ∀args':Array Value,bU φ args args'.toList->
  rK P φ f args' w fun e w'=> ∃L φ' v',e= .returned v'/\M'.log=L++M.log/\Post P GL B φ φ' M M' L w w'/\bA φ' v v'
def Rx(φ:dC):AR->Value->Prop
 | .val v,v'=>bA φ v v'
 | .skip,v'=>v'=undef
theorem gI.congr{M1 M2:aA}(hget: ∀id,M2.getA id=M1.getA id)(hn:M2.next=M1.next)(h:gI P GL B φ M1 w):gI P GL B φ M2 w:=
 ⟨fun id b hb=>h.blkA id b (hget id▸hb),fun a b c d e f g h1 h2=>h.sepA a b c d e f g (hget a▸h1) (hget b▸h2),fun g hg=>by rw[hn];exact h.glob g hg,h.size,fun id b hb=>by rw[hn];exact h.idsA id b (hget id▸hb),h.rnd⟩
theorem Post.congr{φ':dC}{M1 M2 M1' M2':aA}{L:List Nat}{w':World}(hn:M2.next=M1.next)(hget': ∀id,M2'.getA id=M1'.getA id)(hn':M2'.next=M1'.next)(h:Post P GL B φ φ' M1 M1' L w w'):Post P GL B φ φ' M2 M2' L w w':=
 ⟨fun id hi=>h.ext id (by rw[hn,hn'] at hi;exact hi),by rw[hn,hn'];exact h.next,h.rel.congr hget' hn',h.fr,fun id e h1 h2=>h.newb id e (by rw[hn] at h1;exact h1) (by rw[hn'] at h2;exact h2),fun t ht=>by rw[hn'];exact h.logb t ht⟩
theorem Er{m t:Nat}: ∀{l:List Nat},t∈l->t<m->t∈jZ m l
 | [],h,_=>by cases h
 |x::l,h,hlt=>by
  unfold jZ
  rcases List.mem_cons.1 h with rfl|h
  ·have:Nat.blt t m=true:=Nat.ble_eq_true_of_le hlt
   simp [this]
  ·cases hb:Nat.blt x m<;>simp [Er h hlt]
theorem Ai{m t:Nat}: ∀{l:List Nat},t∈jZ m l->t<m
 | [],h=>by cases h
 |x::l,h=>by
  unfold jZ at h
  cases hb:Nat.blt x m<;>simp only [hb,cond_true,cond_false] at h
  ·exact Ai h
  ·rcases List.mem_cons.1 h with rfl|h
   ·exact Nat.le_of_ble_eq_true hb
   ·exact Ai h
def dU(P:Program):Prop:=P.funcs.size<=YB/\ ∀(f:FuncId) (fn:Func),P.funcs[f]?=some fn->(fn.name== "runtime.NumGoroutine")=false
theorem Bf(hN:dU P){f:FuncId}(hb:eQ P f=true):f<YB:=by
 unfold eQ at hb
 split at hb
 ·rename_i fn hf
  exact Nat.lt_of_lt_of_le (Array.getElem?_eq_some_iff.1 hf).1 hN.1
 ·cases hb
theorem vT(hN:dU P){f:FuncId}(hb:eQ P f=true)(args:Array Value):(callFunc f args).run P w= .ok (.enter f args) w:=by
 unfold eQ at hb
 split at hb
 ·rename_i fn hf
  have h1:=hN.2 f fn hf
  have h2:fn.body.isNone=false:=by cases hh:fn.body<;>simp [hh] at hb⊢
  have h1':fn.name≠ "runtime.NumGoroutine" :=by simpa using h1
  have h2': ¬fn.body=none:=by intro x;simp [x] at h2
  simp [callFunc,hf,h1',h2']
 ·cases hb
theorem Gd: ∀{l:List Operand} {vs:List Value},oM GL T l=some vs-> ∀x∈l,∃v,ev GL T x=some v
 | [],_,_,x,hx=>by cases hx
 |y::l,vs,h,x,hx=>by
  simp only [oM] at h
  split at h
  ·rename_i v vs' h1 h2
   rcases List.mem_cons.1 hx with rfl|hx
   ·exact⟨v,h1⟩
   ·exact Gd h2 x hx
  ·cases h
theorem qW(hg:zG GL φ)(hT:fW φ T n a.tmps){o:Option Operand}(h: ∀x,o=some x-> ∃v,ev GL T x=some v):rL φ (o.bind (ev GL T)) (o.map a.eval):=by
 cases o with
 |none=>exact .none
 |some x=>
  obtain⟨v,hv⟩:=h x rfl
  simp only [Option.bind_some,Option.map_some,hv]
  exact .some (bM hg hT hv)
theorem fJ{o:Oper}{r:AR}(hnd: ∀c,o.op≠ .defer c)(h:fV P GL B φ M M' w r ((execOp a.eval o).run P w)){next:Act->World->Prop}{Q:Exit->Act->World->Prop}
  (hk: ∀L φ' v' w',M'.log=L++M.log->Post P GL B φ φ' M M' L w w'->Rx φ' r v'->next (a.put o.dst v') w'):o.wpIn (RO ro) 0 P a w next Q:=by
 obtain⟨L,φ',w',nx,h1,h2,h3,h4⟩:=h
 unfold Oper.wpIn
 refine⟨fun f _=>Dz _ f,?_⟩
 rw[Oper.semAt_eq _ _ _ hnd,h1]
 cases h4 with
 |val hv=>exact hk L φ' _ w' h2 h3 hv
 |skip=>exact hk L φ' _ w' h2 h3 rfl
theorem Mf{o:Oper}{v':Value}{w':World}{next:Act->World->Prop}{Q:Exit->Act->World->Prop}(hv:(execOp a.eval o).run P w= .ok (.value v') w')(h:next (a.put o.dst v') w'):o.wpIn (RO ro) 0 P a w next Q:=by
 unfold Oper.wpIn
 refine⟨fun f _=>Dz _ f,?_⟩
 rw[Oper.semAt_eq _ _ _ fun c hc=> ?_,hv]
 ·exact h
 ·simp only [execOp,hc,Sem.run_bind] at hv
  cases hrs:Sem.run P (resolve a.eval c o.type) w<;>simp [hrs,Result.andThen] at hv
theorem Ih{o:Oper}{f:FuncId}{args':Array Value}{next:Act->World->Prop}{Q:Exit->Act->World->Prop}(hnd: ∀c,o.op≠ .defer c)(hlt:f<YB)(he:(execOp a.eval o).run P w= .ok (.enter f args') w)
  (R:Ending->World->Prop) (h:rK P φ f args' w R) (hk: ∀e w',R e w'-> ∃v,e= .returned v/\next (a.put o.dst v) w'):o.wpIn (RO ro) 0 P a w next Q:=by
 unfold Oper.wpIn
 refine⟨fun f _=>Dz _ f,?_⟩
 rw[Oper.semAt_eq _ _ _ hnd,he,Oper.uponIn_enter]
 refine⟨fun hx=>by simp [RO,Fence.wide] at hx,?_⟩
 have h1:CallsIn (RO ro) (0-1) P f args' w R:=(callsIn_wide (n:=0-1)).2 (h.1 hlt)
 refine h1.mono fun e w' hR=> ?_
 obtain⟨v,rfl,hn⟩:=hk e w' hR
 exact hn
theorem Rt{o:Oper}{r:Nat}{en:oO}{args':Array Value}{next:Act->World->Prop}{Q:Exit->Act->World->Prop}(hnd: ∀c,o.op≠ .defer c)(hen:φ r=some en)(he:(execOp a.eval o).run P w=(Instr.yield en.block args').run P w)
  (R:Ending->World->Prop) (h:rK P φ (YB+r) args' w R) (hk: ∀e w',R e w'-> ∃v,e= .returned v/\next (a.put o.dst v) w'):o.wpIn (RO ro) 0 P a w next Q:=by
 obtain⟨fn,tm,as,bo,h1,h2⟩:=h.2 r en rfl hen
 unfold Oper.wpIn
 refine⟨fun f _=>Dz _ f,?_⟩
 rw[Oper.semAt_eq _ _ _ hnd,he,h1,Oper.uponIn_round]
 refine⟨fun hx=>by simp [RO,Fence.wide] at hx,?_⟩
 have h3:RoundIn (RO ro) (0-1) P en.block fn tm as bo w R:=h2
 refine h3.mono fun e w' hR=> ?_
 obtain⟨v,rfl,hn⟩:=hk e w' hR
 exact hn
theorem Ab{callF:cK}(hC:jH P GL B callF)(hR:gI P GL B φ M w)(hG:iX φ M M'){o:Oper}{f:FuncId}{args:List Value}{args':Array Value}(ha:bU φ args args'.toList){next:Act->World->Prop}{Q:Exit->Act->World->Prop}
  (he: ∀R:Ending->World->Prop,rK P φ f args' w R->(∀e w',R e w'-> ∃v,e= .returned v/\next (a.put o.dst v) w')->o.wpIn (RO ro) 0 P a w next Q) {k:Nat} {r:AR} (h:kC callF f args M=some (k,r,M'))
  (hk: ∀L φ' v' w',M'.log=L++M.log->Post P GL B φ φ' M M' L w w'->Rx φ' r v'->next (a.put o.dst v') w'):o.wpIn (RO ro) 0 P a w next Q:=by
 unfold kC at h
 split at h
 ·rename_i v M1 hcall
  obtain⟨hhide,hcalls⟩:=hC _ _ _ _ _ hcall
  have a1:gI P GL B φ {M with log:= []} w:=gI.congr (M1:=M) (fun _=>rfl) rfl hR
  have hnx:M'.next=M1.next:=by
   split at h<;>simp at h<;>(obtain⟨_,_,rfl⟩:=h;rfl)
  have a0:iX φ {M with log:= []} M1:=fun id h1 h2=>hG id h1 (by rw[hnx];exact h2)
  refine he _ (hcalls φ w a1 a0 args' ha) ?_
  rintro e w' ⟨L,φ',v',rfl,hlog,hpost,hv⟩
  refine⟨v',rfl,?_⟩
  simp only [List.append_nil] at hlog
  have key: ∀M2:aA,(∀id,M2.getA id=M1.getA id)->M2.next=M1.next->M2.log=jZ M.next M1.log++M.log->Post P GL B φ φ' M M2 (jZ M.next M1.log) w w':=fun M2 q1 q2 _=>
   (Post.congr (M1:={M with log:= []}) (M2:=M) (M1':=M1) rfl q1 q2 hpost).weaken (fun t ht hne=>Er (hlog▸ht) (by
    rcases Nat.lt_or_ge t M.next with h|h
    ·exact h
    ·exact absurd (a0 t h (hpost.logb t ht)) hne)) (fun t ht=>by rw[q2];exact Nat.lt_of_lt_of_le (Ai ht) hpost.next)
  have hget: ∀l id,({M1 with log:=l,hide:=M.hide}:aA).getA id=M1.getA id:=fun l id=>by
   unfold aA.getA;simp only [hhide]
  split at h
  ·rename_i hnil
   simp at h
   obtain⟨_,rfl,rfl⟩:=h
   have:=key _ (hget M.log) rfl (by rw[hnil];rfl)
   rw[hnil] at this
   exact hk [] φ' v' w' rfl this hv
  ·rename_i l hl
   simp at h
   obtain⟨_,rfl,rfl⟩:=h
   exact hk _ φ' v' w' rfl (key _ (hget _) rfl rfl) hv
 ·simp at h
theorem Cw{v v':Value}(hv:bA φ v v'){g:FuncId}{x y:List Value}(h:yB v=some (g,x,y)): ∃x' y':Array Value,v'= .func (.func g) x' y'/\bU φ x x'.toList/\bU φ y y'.toList:=by
 unfold yB at h
 split at h
 ·simp at h
  obtain⟨rfl,rfl,rfl⟩:=h
  exact hv.func_inv rfl
 ·simp at h
theorem An(hN:dU P){t:TypeId}{name:String}{g:FuncId}(h:zR P t name=some g)(hb:eQ P g=true)(v:Value)(args:Array Value):(callMethod (.iface t v) name args).run P w= .ok (.enter g (#[v]++args)) w:=by
 unfold zR at h
 split at h
 ·rename_i i hi
  split at h
  ·rename_i m hm
   split at h
   ·rename_i hp
    split at h
    ·rename_i f b d hf hd
     have hbd:b=Gh d:=by
      cases hq:(b==Gh d)<;>simp only [hq,cond_true,cond_false] at h
      ·cases h
      ·exact eq_of_beq hq
     have hfg:f=g:=by
      rw[hbd] at h
      simpa using h
     subst hfg
     have hmeth:(method (P.types.size+Made.depth) t v name).run P w= .ok (f,v) w:=by
      have hdp:0<Made.depth:=by decide
      obtain⟨k,hk⟩: ∃k,P.types.size+Made.depth=k+1:=⟨P.types.size+Made.depth-1,by omega⟩
      rw[hk]
      have hrec: ∀wr,(receiverAt t (.val v) b wr).run P w= .ok v w:=fun wr=>by
       subst hbd
       unfold receiverAt
       simp only [Sem.run_bind,run_underlying hd,Result.andThen_ok]
       cases d<;>simp [Gh,Place.get]
      simp [method,kG t hi,hm,hp,follow,hf,hrec]
     simp only [callMethod,Sem.run_bind,run_program,Result.andThen_ok,hmeth]
     exact vT hN hb _
    ·cases h
   ·cases h
  ·cases h
 ·cases h
set_option maxHeartbeats 1000000 in
theorem Ag{callF:cK}(hN:dU P)(hC:jH P GL B callF)(hR:gI P GL B φ M w)(hG:iX φ M M')(hT:fW φ T n a.tmps){o:Oper}{k:Nat}{r:AR}(h:jG P GL callF o T M=some (k,r,M')){next:Act->World->Prop}{Q:Exit->Act->World->Prop}
  (hk: ∀L φ' v' w',M'.log=L++M.log->Post P GL B φ φ' M M' L w w'->Rx φ' r v'->next (a.put o.dst v') w'):o.wpIn (RO ro) 0 P a w next Q:=by
 have hg:zG GL φ:=fun g hgl=>(hR.glob g hgl).2
 unfold jG at h
 split at h
 ·rename_i r0 h0
  simp at h
  obtain⟨_,rfl,rfl⟩:=h
  obtain⟨v,rfl,v',a2,a3⟩:=uH (w:=w) hg hT h0
  exact Mf a2 (hk [] φ v' w rfl (Post.refl hR) a3)
 ·replace h:eU P GL callF o T M=some (k,r,M'):=by
   split at h
   ·cases h
   ·exact h
  obtain⟨dst,op,type,pos,after,guard⟩:=o
  unfold eU at h
  split at h<;>rename_i hop<;>simp only at hop
  case h_1 elem=>subst hop;exact fJ (by simp) (Hq hR hG h).2 hk
  case h_2 elem x=>
   subst hop
   split at h
   ·rename_i v hx
    exact fJ (by simp) (Ng hR hG (bM hg hT hx) h).2 hk
   ·simp at h
  case h_3 t len parts=>
   subst hop
   split at h
   ·rename_i ps hps
    have h1:=pH hg hT hps
    exact fJ (by simp) (xE (ps':=parts.map fun(i,x)=>(i,a.eval x)) hR hG (by simpa using h1.1) (by simpa using h1.2) h).2 hk
   ·simp at h
  case h_4 t x=>
   subst hop
   split at h
   ·rename_i ad hx
    split at h
    ·rename_i v hv
     simp at h
     obtain⟨_,rfl,rfl⟩:=h
     obtain⟨v',e1,e2⟩:=Br hR (bM hg hT hx) hv
     exact fJ (by simp) (fV.val (L:= []) e1 rfl (Post.refl hR) e2) hk
    ·simp at h
   ·simp at h
  case h_5 t x y=>
   subst hop
   split at h
   ·rename_i ad v hx hy
    split at h
    ·rename_i M1 hs
     simp at h
     obtain⟨_,rfl,rfl⟩:=h
     exact fJ (by simp) (Jx hR (bM hg hT hx) (bM hg hT hy) hs) hk
    ·simp at h
   ·simp at h
  case h_6 src dst x=>
   subst hop
   split at h
   ·rename_i v hx
    exact fJ (by simp) (Dh hR hG (bM hg hT hx) h).2 hk
   ·simp at h
  case h_7 t l c=>
   subst hop
   split at h
   ·rename_i l' c' hl hc
    exact fJ (by simp) (zK hR hG (bM hg hT hl) (bM hg hT hc) h).2 hk
   ·simp at h
  case h_8 t x lo hi mx=>
   subst hop
   split at h
   ·rename_i v vs hx hvs
    split at h
    ·rename_i r1 a1
     simp at h
     obtain⟨_,rfl,rfl⟩:=h
     have hm:=Gd hvs
     obtain⟨v',e1,e2⟩:=Jv hR (bM hg hT hx) (qW hg hT (o:=lo) fun y hy=>hm y (by simp [hy])) (qW hg hT (o:=hi) fun y hy=>hm y (by simp [hy])) (qW hg hT (o:=mx) fun y hy=>hm y (by simp [hy])) a1
     exact fJ (by simp) (fV.val (L:= []) e1 rfl (Post.refl hR) e2) hk
    ·simp at h
   ·simp at h
  case h_9 c=>
   subst hop
   obtain⟨callee,args,argTypes⟩:=c
   simp only at h
   split at h
   ·rename_i f
    split at h
    ·rename_i fv as hf has
     split at h
     ·rename_i g first captured htg
      cases hb:eQ P g<;>simp only [hb,cond_true,cond_false] at h
      ·obtain⟨x',y',e1,e2,e3⟩:=Cw (bM hg hT hf) htg
       have e4:=fR hg hT has
       have e5:=(e2.append e4).append e3
       unfold Kl at h
       split at h<;>try (simp at h;done)
       rename_i fn x hfn hxl
       cases hnm:(fn.name== "internal/abi.NoEscape" &&fn.origin== "" &&fn.body.isNone)<;>simp only [hnm,cond_true,cond_false] at h
       ·simp at h
       ·simp only [Bool.and_eq_true] at hnm
        simp at h
        obtain⟨_,rfl,rfl⟩:=h
        rw[hxl] at e5
        generalize hm:x'.toList++args.toList.map a.eval++y'.toList=m at e5
        cases e5 with
        |cons k1 k2=>
         cases k2
         rename_i u
         have hm':x'++args.map a.eval++y'= #[u]:=by apply Array.ext';simpa using hm
         have hnn:(fn.name== "runtime.NumGoroutine")=false:=hN.2 g fn hfn
         have hrun:(callFunc g #[u]).run P w= .ok (.value u) w:=by
          have hname:fn.name= "internal/abi.NoEscape" :=eq_of_beq hnm.1.1
          have horig:fn.origin= "" :=eq_of_beq hnm.1.2
          have h1:Extern.findNext fn=none:=by
           unfold Extern.findNext
           rw[hname,horig]
           kernel_rfl
          have h2:Extern.find fn=some Extern.AbiNoEscape.same:=by
           unfold Extern.find
           rw[hname,horig]
           kernel_rfl
          rw[run_callFunc_extern hfn hnn hnm.2 h1 h2]
          rfl
         refine fJ (by simp) ⟨[],φ,w,.value u,?_,rfl,Post.refl hR,.val k1⟩ hk
         simp [execOp,resolve,e1,Deferred.ofValue,invoke,hm',hrun]
      ·obtain⟨x',y',e1,e2,e3⟩:=Cw (bM hg hT hf) htg
       have e4:=fR hg hT has
       refine Ab hC hR hG (args':=x'++args.map a.eval++y') ?_ (Ih (by simp) (Bf hN hb) ?_) h hk
       ·have:=(e2.append e4).append e3
        simpa using this
       ·simp [execOp,resolve,e1,Deferred.ofValue,invoke,vT hN hb]
     ·unfold Fy at h
      split at h
      ·obtain⟨en,hen,e1⟩:=(bM (a:=a) hg hT hf).yld_inv
       have e4:=fR (a:=a) hg hT has
       refine Ab hC hR hG (args':=args.map a.eval) ?_ (Rt (by simp) hen ?_) h hk
       ·simpa using e4
       ·simp [execOp,resolve,e1,Deferred.ofValue,invoke]
      ·simp at h
    ·simp at h
   ·rename_i x name
    split at h
    ·rename_i t v as hx has
     split at h
     ·rename_i g a0
      cases hb:eQ P g<;>simp only [hb,cond_true,cond_false] at h
      ·simp at h
      ·obtain⟨u,e1,e2⟩:=(bM hg hT hx).iface_inv
       have e4:=fR hg hT has
       refine Ab hC hR hG (args':= #[u]++args.map a.eval) ?_ (Ih (by simp) (Bf hN hb) ?_) h hk
       ·simpa using bU.cons e2 e4
       ·have h3:=An (w:=w) hN a0 hb u (args.map a.eval)
        have h5:(#[Value.iface t u]++args.map a.eval)[0]?=some (.iface t u):=by rw[Array.getElem?_append_left (by simp)];rfl
        have h6:(#[Value.iface t u]++args.map a.eval).extract 1 (#[Value.iface t u]++args.map a.eval).size=args.map a.eval:=by
         generalize args.map a.eval=m
         apply Array.ext'
         simp [List.extract]
        simp only [execOp,resolve,Sem.run_bind,Sem.run_pure,Result.andThen_ok,invoke,e1,h5,h6]
        exact h3
     ·simp at h
    ·simp at h
   ·split at h
    ·rename_i s x has
     have e4:=fR hg hT has
     generalize hm:args.toList.map a.eval=m at e4
     cases e4 with
     |cons k1 k2=>cases k2 with
      |cons k2 k3=>
       cases k3
       rename_i u1 u2
       have hm':args.map a.eval= #[u1,u2]:=by apply Array.ext';simpa using hm
       have hs:=Fv (type:=type) hR hG k1 k2 h
       refine fJ (by simp) ?_ hk
       simpa [execOp,resolve,invoke,builtin,hm'] using hs
    ·simp at h
   ·split at h
    ·rename_i s x has
     have e4:=fR hg hT has
     generalize hm:args.toList.map a.eval=m at e4
     cases e4 with
     |cons k1 k2=>cases k2 with
      |cons k2 k3=>
       cases k3
       rename_i u1 u2
       have hm':args.map a.eval= #[u1,u2]:=by apply Array.ext';simpa using hm
       have hs:=Kw (type:=type) hR k1 k2 h
       refine fJ (by simp) ?_ hk
       simpa [execOp,resolve,invoke,builtin,hm'] using hs
    ·simp at h
   ·split at h
    ·rename_i x has
     have e4:=fR hg hT has
     generalize hm:args.toList.map a.eval=m at e4
     cases e4 with
     |cons k1 k2=>cases k2
                  rename_i u1
                  have hm':args.map a.eval= #[u1]:=by apply Array.ext';simpa using hm
                  have hs:=Ie (type:=type) hR k1 h
                  refine fJ (by simp) ?_ hk
                  simpa [execOp,resolve,invoke,builtin,hm'] using hs
    ·simp at h
   ·split at h
    ·rename_i s x has
     have e4:=fR hg hT has
     generalize hm:args.toList.map a.eval=m at e4
     cases e4 with
     |cons k1 k2=>cases k2 with
      |cons k2 k3=>
       cases k3
       rename_i u1 u2
       have hm':args.map a.eval= #[u1,u2]:=by apply Array.ext';simpa using hm
       have hs:=Jz (type:=type) hR k1 k2 h
       refine fJ (by simp) ?_ hk
       simpa [execOp,resolve,invoke,builtin,hm'] using hs
    ·simp at h
   ·simp at h
  case h_10 t hint=>
   subst hop
   split at h
   ·rename_i vs hvs
    have hm:=Gd hvs
    exact fJ (by simp) (Dq hR hG (qW hg hT (o:=hint) fun y hy=>hm y (by simp [hy])) h).2 hk
   ·simp at h
  case h_11 t x ky ok=>
   subst hop
   split at h
   ·rename_i v key hx hy
    exact fJ (by simp) (Gi hR (bM hg hT hx) (bM hg hT hy) h).2 hk
   ·simp at h
  case h_12 t x ky v=>
   subst hop
   split at h
   ·rename_i m key u hx hy hz
    exact fJ (by simp) (zL hR (bM hg hT hx) (bM hg hT hy) (bM hg hT hz) h).2 hk
   ·simp at h
  case h_13=>simp at h
end Go.Am
end
