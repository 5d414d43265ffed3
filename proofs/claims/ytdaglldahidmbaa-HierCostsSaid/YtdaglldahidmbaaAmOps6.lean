/-
  Package hier: each of its laws for every argument; no conditions. The last text states which.
-/
import Derived.Test.YtdaglldahidmbaaAmMaps
import Derived.RangeFuncSeq
import Derived.OrdersIn
import Derived.LoopNIn
set_option linter.unusedVariables false
set_option linter.unusedSimpArgs false
noncomputable section
namespace Go.Am
open Go
variable{P:Program}{GL:List Nat}{B:Bd}{φ:Emb}{M M':Mem}{w:World}{T:Tr Value}{n:Nat}{a:Act}
def RO(ro:Option Nat):Fence:={Fence.wide with round:=ro}
theorem RO_fn(ro:Option Nat)(f:FuncId):(RO ro).fn f:=trivial
variable{ro:Option Nat}
def CallsR(P:Program)(φ:Emb)(f:FuncId)(args:Array Value)(w:World)(R:Ending→World→Prop):Prop:=
 (f<YB→Calls P f args w R)∧(∀r e,f=YB+r→φ r=some e→YieldAt Fence.wide 0 P e.block args w R)
def CallOk(P:Program)(GL:List Nat)(B:Bd)(callF:CallF):Prop:=
 ∀f args M v M',callF f args M=some (v,M')→M'.hide=M.hide∧ ∀φ w,Rel P GL B φ M w→Good φ M M'→ ∀args':Array Value,LRel φ args args'.toList→
  CallsR P φ f args' w fun e w'=> ∃L φ' v',e= .returned v'∧M'.log=L++M.log∧Post P GL B φ φ' M M' L w w'∧VRel φ' v v'
def ORel(φ:Emb):AR→Value→Prop
 | .val v,v'=>VRel φ v v'
 | .skip,v'=>v'=undef
theorem Rel.congr{M1 M2:Mem}(hget: ∀id,M2.getA id=M1.getA id)(hn:M2.next=M1.next)(h:Rel P GL B φ M1 w):Rel P GL B φ M2 w:=
 ⟨fun id b hb=>h.blkA id b (hget id▸hb),fun a b c d e f g h1 h2=>h.sepA a b c d e f g (hget a▸h1) (hget b▸h2),fun g hg=>by rw[hn];exact h.glob g hg,h.size,fun id b hb=>by rw[hn];exact h.idsA id b (hget id▸hb),h.rnd⟩
theorem Post.congr{φ':Emb}{M1 M2 M1' M2':Mem}{L:List Nat}{w':World}(hn:M2.next=M1.next)(hget': ∀id,M2'.getA id=M1'.getA id)(hn':M2'.next=M1'.next)(h:Post P GL B φ φ' M1 M1' L w w'):Post P GL B φ φ' M2 M2' L w w':=
 ⟨fun id hi=>h.ext id (by rw[hn,hn'] at hi;exact hi),by rw[hn,hn'];exact h.next,h.rel.congr hget' hn',h.fr,fun id e h1 h2=>h.newb id e (by rw[hn] at h1;exact h1) (by rw[hn'] at h2;exact h2),fun t ht=>by rw[hn'];exact h.logb t ht⟩
theorem mem_below{m t:Nat}: ∀{l:List Nat},t∈l→t<m→t∈below m l
 | [],h,_=>by cases h
 |x::l,h,hlt=>by
  unfold below
  rcases List.mem_cons.1 h with rfl|h
  ·have:Nat.blt t m=true:=Nat.ble_eq_true_of_le hlt
   simp [this]
  ·cases hb:Nat.blt x m<;>simp [mem_below h hlt]
theorem below_lt{m t:Nat}: ∀{l:List Nat},t∈below m l→t<m
 | [],h=>by cases h
 |x::l,h=>by
  unfold below at h
  cases hb:Nat.blt x m<;>simp only [hb,cond_true,cond_false] at h
  ·exact below_lt h
  ·rcases List.mem_cons.1 h with rfl|h
   ·exact Nat.le_of_ble_eq_true hb
   ·exact below_lt h
def noNum(P:Program):Prop:=P.funcs.size≤YB∧ ∀(f:FuncId) (fn:Func),P.funcs[f]?=some fn→(fn.name== "runtime.NumGoroutine")=false
theorem hasBody_lt(hN:noNum P){f:FuncId}(hb:hasBody P f=true):f<YB:=by
 unfold hasBody at hb
 split at hb
 ·rename_i fn hf
  exact Nat.lt_of_lt_of_le (Array.getElem?_eq_some_iff.1 hf).1 hN.1
 ·cases hb
theorem callFunc_run(hN:noNum P){f:FuncId}(hb:hasBody P f=true)(args:Array Value):(callFunc f args).run P w= .ok (.enter f args) w:=by
 unfold hasBody at hb
 split at hb
 ·rename_i fn hf
  have h1:=hN.2 f fn hf
  have h2:fn.body.isNone=false:=by cases hh:fn.body<;>simp [hh] at hb⊢
  have h1':fn.name≠ "runtime.NumGoroutine" :=by simpa using h1
  have h2': ¬fn.body=none:=by intro x;simp [x] at h2
  simp [callFunc,hf,h1',h2']
 ·cases hb
theorem evs_mem: ∀{l:List Operand} {vs:List Value},evs GL T l=some vs→ ∀x∈l,∃v,ev GL T x=some v
 | [],_,_,x,hx=>by cases hx
 |y::l,vs,h,x,hx=>by
  simp only [evs] at h
  split at h
  ·rename_i v vs' h1 h2
   rcases List.mem_cons.1 hx with rfl|hx
   ·exact⟨v,h1⟩
   ·exact evs_mem h2 x hx
  ·cases h
theorem opt_of_evs(hg:GRel GL φ)(hT:TRel φ T n a.tmps){o:Option Operand}(h: ∀x,o=some x→ ∃v,ev GL T x=some v):OptRel φ (o.bind (ev GL T)) (o.map a.eval):=by
 cases o with
 |none=>exact .none
 |some x=>
  obtain⟨v,hv⟩:=h x rfl
  simp only [Option.bind_some,Option.map_some,hv]
  exact .some (ev_sound hg hT hv)
theorem wp_of_ok{o:Oper}{r:AR}(hnd: ∀c,o.op≠ .defer c)(h:OpOk P GL B φ M M' w r ((execOp a.eval o).run P w)){next:Act→World→Prop}{Q:Exit→Act→World→Prop}
  (hk: ∀L φ' v' w',M'.log=L++M.log→Post P GL B φ φ' M M' L w w'→ORel φ' r v'→next (a.put o.dst v') w'):o.wpIn (RO ro) 0 P a w next Q:=by
 obtain⟨L,φ',w',nx,h1,h2,h3,h4⟩:=h
 unfold Oper.wpIn
 refine⟨fun f _=>RO_fn _ f,?_⟩
 rw[Oper.semAt_eq _ _ _ hnd,h1]
 cases h4 with
 |val hv=>exact hk L φ' _ w' h2 h3 hv
 |skip=>exact hk L φ' _ w' h2 h3 rfl
theorem val_wp{o:Oper}{v':Value}{w':World}{next:Act→World→Prop}{Q:Exit→Act→World→Prop}(hv:(execOp a.eval o).run P w= .ok (.value v') w')(h:next (a.put o.dst v') w'):o.wpIn (RO ro) 0 P a w next Q:=by
 unfold Oper.wpIn
 refine⟨fun f _=>RO_fn _ f,?_⟩
 rw[Oper.semAt_eq _ _ _ fun c hc=> ?_,hv]
 ·exact h
 ·simp only [execOp,hc,Sem.run_bind] at hv
  cases hrs:Sem.run P (resolve a.eval c o.type) w<;>simp [hrs,Result.andThen] at hv
theorem enter_wp{o:Oper}{f:FuncId}{args':Array Value}{next:Act→World→Prop}{Q:Exit→Act→World→Prop}(hnd: ∀c,o.op≠ .defer c)(hlt:f<YB)(he:(execOp a.eval o).run P w= .ok (.enter f args') w)
  (R:Ending→World→Prop) (h:CallsR P φ f args' w R) (hk: ∀e w',R e w'→ ∃v,e= .returned v∧next (a.put o.dst v) w'):o.wpIn (RO ro) 0 P a w next Q:=by
 unfold Oper.wpIn
 refine⟨fun f _=>RO_fn _ f,?_⟩
 rw[Oper.semAt_eq _ _ _ hnd,he,Oper.uponIn_enter]
 refine⟨fun hx=>by simp [RO,Fence.wide] at hx,?_⟩
 have h1:CallsIn (RO ro) (0-1) P f args' w R:=(callsIn_wide (n:=0-1)).2 (h.1 hlt)
 refine h1.mono fun e w' hR=> ?_
 obtain⟨v,rfl,hn⟩:=hk e w' hR
 exact hn
theorem yield_wp{o:Oper}{r:Nat}{en:Ent}{args':Array Value}{next:Act→World→Prop}{Q:Exit→Act→World→Prop}(hnd: ∀c,o.op≠ .defer c)(hen:φ r=some en)(he:(execOp a.eval o).run P w=(Instr.yield en.block args').run P w)
  (R:Ending→World→Prop) (h:CallsR P φ (YB+r) args' w R) (hk: ∀e w',R e w'→ ∃v,e= .returned v∧next (a.put o.dst v) w'):o.wpIn (RO ro) 0 P a w next Q:=by
 obtain⟨fn,tm,as,bo,h1,h2⟩:=h.2 r en rfl hen
 unfold Oper.wpIn
 refine⟨fun f _=>RO_fn _ f,?_⟩
 rw[Oper.semAt_eq _ _ _ hnd,he,h1,Oper.uponIn_round]
 refine⟨fun hx=>by simp [RO,Fence.wide] at hx,?_⟩
 have h3:RoundIn (RO ro) (0-1) P en.block fn tm as bo w R:=h2
 refine h3.mono fun e w' hR=> ?_
 obtain⟨v,rfl,hn⟩:=hk e w' hR
 exact hn
theorem acall_wp{callF:CallF}(hC:CallOk P GL B callF)(hR:Rel P GL B φ M w)(hG:Good φ M M'){o:Oper}{f:FuncId}{args:List Value}{args':Array Value}(ha:LRel φ args args'.toList){next:Act→World→Prop}{Q:Exit→Act→World→Prop}
  (he: ∀R:Ending→World→Prop,CallsR P φ f args' w R→(∀e w',R e w'→ ∃v,e= .returned v∧next (a.put o.dst v) w')→o.wpIn (RO ro) 0 P a w next Q) {k:Nat} {r:AR} (h:acall callF f args M=some (k,r,M'))
  (hk: ∀L φ' v' w',M'.log=L++M.log→Post P GL B φ φ' M M' L w w'→ORel φ' r v'→next (a.put o.dst v') w'):o.wpIn (RO ro) 0 P a w next Q:=by
 unfold acall at h
 split at h
 ·rename_i v M1 hcall
  obtain⟨hhide,hcalls⟩:=hC _ _ _ _ _ hcall
  have hR0:Rel P GL B φ {M with log:= []} w:=Rel.congr (M1:=M) (fun _=>rfl) rfl hR
  have hnx:M'.next=M1.next:=by
   split at h<;>simp at h<;>(obtain⟨_,_,rfl⟩:=h;rfl)
  have hG1:Good φ {M with log:= []} M1:=fun id h1 h2=>hG id h1 (by rw[hnx];exact h2)
  refine he _ (hcalls φ w hR0 hG1 args' ha) ?_
  rintro e w' ⟨L,φ',v',rfl,hlog,hpost,hv⟩
  refine⟨v',rfl,?_⟩
  simp only [List.append_nil] at hlog
  have key: ∀M2:Mem,(∀id,M2.getA id=M1.getA id)→M2.next=M1.next→M2.log=below M.next M1.log++M.log→Post P GL B φ φ' M M2 (below M.next M1.log) w w':=fun M2 q1 q2 _=>
   (Post.congr (M1:={M with log:= []}) (M2:=M) (M1':=M1) rfl q1 q2 hpost).weaken (fun t ht hne=>mem_below (hlog▸ht) (by
    rcases Nat.lt_or_ge t M.next with h|h
    ·exact h
    ·exact absurd (hG1 t h (hpost.logb t ht)) hne)) (fun t ht=>by rw[q2];exact Nat.lt_of_lt_of_le (below_lt ht) hpost.next)
  have hget: ∀l id,({M1 with log:=l,hide:=M.hide}:Mem).getA id=M1.getA id:=fun l id=>by
   unfold Mem.getA;simp only [hhide]
  split at h
  ·rename_i hnil
   simp at h
   obtain⟨_,rfl,rfl⟩:=h
   have:=key _ (hget M.log) rfl (by rw[hnil];rfl)
   rw[hnil] at this
   exact hk [] φ' v' w' rfl this hv
  ·rename_i l hl
   simp at h
   obtain⟨_,rfl,rfl⟩:=h
   exact hk _ φ' v' w' rfl (key _ (hget _) rfl rfl) hv
 ·simp at h
theorem target_inv{v v':Value}(hv:VRel φ v v'){g:FuncId}{x y:List Value}(h:target v=some (g,x,y)): ∃x' y':Array Value,v'= .func (.func g) x' y'∧LRel φ x x'.toList∧LRel φ y y'.toList:=by
 unfold target at h
 split at h
 ·simp at h
  obtain⟨rfl,rfl,rfl⟩:=h
  exact hv.func_inv rfl
 ·simp at h
theorem callMethod_run(hN:noNum P){t:TypeId}{name:String}{g:FuncId}(h:amethod P t name=some g)(hb:hasBody P g=true)(v:Value)(args:Array Value):(callMethod (.iface t v) name args).run P w= .ok (.enter g (#[v]++args)) w:=by
 unfold amethod at h
 split at h
 ·rename_i i hi
  split at h
  ·rename_i m hm
   split at h
   ·rename_i hp
    split at h
    ·rename_i f b d hf hd
     have hbd:b=isPtrD d:=by
      cases hq:(b==isPtrD d)<;>simp only [hq,cond_true,cond_false] at h
      ·cases h
      ·exact eq_of_beq hq
     have hfg:f=g:=by
      rw[hbd] at h
      simpa using h
     subst hfg
     have hmeth:(method (P.types.size+Made.depth) t v name).run P w= .ok (f,v) w:=by
      have hdp:0<Made.depth:=by decide
      obtain⟨k,hk⟩: ∃k,P.types.size+Made.depth=k+1:=⟨P.types.size+Made.depth-1,by omega⟩
      rw[hk]
      have hrec: ∀wr,(receiverAt t (.val v) b wr).run P w= .ok v w:=fun wr=>by
       subst hbd
       unfold receiverAt
       simp only [Sem.run_bind,run_underlying hd,Result.andThen_ok]
       cases d<;>simp [isPtrD,Place.get]
      simp [method,run_typeInfo' t hi,hm,hp,follow,hf,hrec]
     simp only [callMethod,Sem.run_bind,run_program,Result.andThen_ok,hmeth]
     exact callFunc_run hN hb _
    ·cases h
   ·cases h
  ·cases h
 ·cases h
set_option maxHeartbeats 1000000 in
theorem aop_wp{callF:CallF}(hN:noNum P)(hC:CallOk P GL B callF)(hR:Rel P GL B φ M w)(hG:Good φ M M')(hT:TRel φ T n a.tmps){o:Oper}{k:Nat}{r:AR}(h:aop P GL callF o T M=some (k,r,M')){next:Act→World→Prop}{Q:Exit→Act→World→Prop}
  (hk: ∀L φ' v' w',M'.log=L++M.log→Post P GL B φ φ' M M' L w w'→ORel φ' r v'→next (a.put o.dst v') w'):o.wpIn (RO ro) 0 P a w next Q:=by
 have hg:GRel GL φ:=fun g hgl=>(hR.glob g hgl).2
 unfold aop at h
 split at h
 ·rename_i r0 h0
  simp at h
  obtain⟨_,rfl,rfl⟩:=h
  obtain⟨v,rfl,v',hv1,hv2⟩:=aop0_sound (w:=w) hg hT h0
  exact val_wp hv1 (hk [] φ v' w rfl (Post.refl hR) hv2)
 ·replace h:aop1 P GL callF o T M=some (k,r,M'):=by
   split at h
   ·cases h
   ·exact h
  obtain⟨dst,op,type,pos,after,guard⟩:=o
  unfold aop1 at h
  split at h<;>rename_i hop<;>simp only at hop
  case h_1 elem=>subst hop;exact wp_of_ok (by simp) (alloc_sound hR hG h).2 hk
  case h_2 elem x=>
   subst hop
   split at h
   ·rename_i v hx
    exact wp_of_ok (by simp) (box_sound hR hG (ev_sound hg hT hx) h).2 hk
   ·simp at h
  case h_3 t len parts=>
   subst hop
   split at h
   ·rename_i ps hps
    have h1:=evParts_sound hg hT hps
    exact wp_of_ok (by simp) (buildSlice_sound (ps':=parts.map fun(i,x)=>(i,a.eval x)) hR hG (by simpa using h1.1) (by simpa using h1.2) h).2 hk
   ·simp at h
  case h_4 t x=>
   subst hop
   split at h
   ·rename_i ad hx
    split at h
    ·rename_i v hv
     simp at h
     obtain⟨_,rfl,rfl⟩:=h
     obtain⟨v',e1,e2⟩:=load_sound hR (ev_sound hg hT hx) hv
     exact wp_of_ok (by simp) (OpOk.val (L:= []) e1 rfl (Post.refl hR) e2) hk
    ·simp at h
   ·simp at h
  case h_5 t x y=>
   subst hop
   split at h
   ·rename_i ad v hx hy
    split at h
    ·rename_i M1 hs
     simp at h
     obtain⟨_,rfl,rfl⟩:=h
     exact wp_of_ok (by simp) (store_sound hR (ev_sound hg hT hx) (ev_sound hg hT hy) hs) hk
    ·simp at h
   ·simp at h
  case h_6 src dst x=>
   subst hop
   split at h
   ·rename_i v hx
    exact wp_of_ok (by simp) (convert_sound hR hG (ev_sound hg hT hx) h).2 hk
   ·simp at h
  case h_7 t l c=>
   subst hop
   split at h
   ·rename_i l' c' hl hc
    exact wp_of_ok (by simp) (makeSlice_sound hR hG (ev_sound hg hT hl) (ev_sound hg hT hc) h).2 hk
   ·simp at h
  case h_8 t x lo hi mx=>
   subst hop
   split at h
   ·rename_i v vs hx hvs
    split at h
    ·rename_i r1 hr1
     simp at h
     obtain⟨_,rfl,rfl⟩:=h
     have hm:=evs_mem hvs
     obtain⟨v',e1,e2⟩:=slice_sound hR (ev_sound hg hT hx) (opt_of_evs hg hT (o:=lo) fun y hy=>hm y (by simp [hy])) (opt_of_evs hg hT (o:=hi) fun y hy=>hm y (by simp [hy])) (opt_of_evs hg hT (o:=mx) fun y hy=>hm y (by simp [hy])) hr1
     exact wp_of_ok (by simp) (OpOk.val (L:= []) e1 rfl (Post.refl hR) e2) hk
    ·simp at h
   ·simp at h
  case h_9 c=>
   subst hop
   obtain⟨callee,args,argTypes⟩:=c
   simp only at h
   split at h
   ·rename_i f
    split at h
    ·rename_i fv as hf has
     split at h
     ·rename_i g first captured htg
      cases hb:hasBody P g<;>simp only [hb,cond_true,cond_false] at h
      ·obtain⟨x',y',e1,e2,e3⟩:=target_inv (ev_sound hg hT hf) htg
       have e4:=evs_sound hg hT has
       have e5:=(e2.append e4).append e3
       unfold anoesc at h
       split at h<;>try (simp at h;done)
       rename_i fn x hfn hxl
       cases hnm:(fn.name== "internal/abi.NoEscape" &&fn.origin== "" &&fn.body.isNone)<;>simp only [hnm,cond_true,cond_false] at h
       ·simp at h
       ·simp only [Bool.and_eq_true] at hnm
        simp at h
        obtain⟨_,rfl,rfl⟩:=h
        rw[hxl] at e5
        generalize hm:x'.toList++args.toList.map a.eval++y'.toList=m at e5
        cases e5 with
        |cons k1 k2=>
         cases k2
         rename_i u
         have hm':x'++args.map a.eval++y'= #[u]:=by apply Array.ext';simpa using hm
         have hnn:(fn.name== "runtime.NumGoroutine")=false:=hN.2 g fn hfn
         have hrun:(callFunc g #[u]).run P w= .ok (.value u) w:=by
          have hname:fn.name= "internal/abi.NoEscape" :=eq_of_beq hnm.1.1
          have horig:fn.origin= "" :=eq_of_beq hnm.1.2
          have h1:Extern.findNext fn=none:=by
           unfold Extern.findNext
           rw[hname,horig]
           kernel_rfl
          have h2:Extern.find fn=some Extern.AbiNoEscape.same:=by
           unfold Extern.find
           rw[hname,horig]
           kernel_rfl
          rw[run_callFunc_extern hfn hnn hnm.2 h1 h2]
          rfl
         refine wp_of_ok (by simp) ⟨[],φ,w,.value u,?_,rfl,Post.refl hR,.val k1⟩ hk
         simp [execOp,resolve,e1,Deferred.ofValue,invoke,hm',hrun]
      ·obtain⟨x',y',e1,e2,e3⟩:=target_inv (ev_sound hg hT hf) htg
       have e4:=evs_sound hg hT has
       refine acall_wp hC hR hG (args':=x'++args.map a.eval++y') ?_ (enter_wp (by simp) (hasBody_lt hN hb) ?_) h hk
       ·have:=(e2.append e4).append e3
        simpa using this
       ·simp [execOp,resolve,e1,Deferred.ofValue,invoke,callFunc_run hN hb]
     ·unfold ayield at h
      split at h
      ·obtain⟨en,hen,e1⟩:=(ev_sound (a:=a) hg hT hf).yld_inv
       have e4:=evs_sound (a:=a) hg hT has
       refine acall_wp hC hR hG (args':=args.map a.eval) ?_ (yield_wp (by simp) hen ?_) h hk
       ·simpa using e4
       ·simp [execOp,resolve,e1,Deferred.ofValue,invoke]
      ·simp at h
    ·simp at h
   ·rename_i x name
    split at h
    ·rename_i t v as hx has
     split at h
     ·rename_i g hg1
      cases hb:hasBody P g<;>simp only [hb,cond_true,cond_false] at h
      ·simp at h
      ·obtain⟨u,e1,e2⟩:=(ev_sound hg hT hx).iface_inv
       have e4:=evs_sound hg hT has
       refine acall_wp hC hR hG (args':= #[u]++args.map a.eval) ?_ (enter_wp (by simp) (hasBody_lt hN hb) ?_) h hk
       ·simpa using LRel.cons e2 e4
       ·have h3:=callMethod_run (w:=w) hN hg1 hb u (args.map a.eval)
        have h5:(#[Value.iface t u]++args.map a.eval)[0]?=some (.iface t u):=by rw[Array.getElem?_append_left (by simp)];rfl
        have h6:(#[Value.iface t u]++args.map a.eval).extract 1 (#[Value.iface t u]++args.map a.eval).size=args.map a.eval:=by
         generalize args.map a.eval=m
         apply Array.ext'
         simp [List.extract]
        simp only [execOp,resolve,Sem.run_bind,Sem.run_pure,Result.andThen_ok,invoke,e1,h5,h6]
        exact h3
     ·simp at h
    ·simp at h
   ·split at h
    ·rename_i s x has
     have e4:=evs_sound hg hT has
     generalize hm:args.toList.map a.eval=m at e4
     cases e4 with
     |cons k1 k2=>cases k2 with
      |cons k2 k3=>
       cases k3
       rename_i u1 u2
       have hm':args.map a.eval= #[u1,u2]:=by apply Array.ext';simpa using hm
       have hs:=append_sound (type:=type) hR hG k1 k2 h
       refine wp_of_ok (by simp) ?_ hk
       simpa [execOp,resolve,invoke,builtin,hm'] using hs
    ·simp at h
   ·split at h
    ·rename_i s x has
     have e4:=evs_sound hg hT has
     generalize hm:args.toList.map a.eval=m at e4
     cases e4 with
     |cons k1 k2=>cases k2 with
      |cons k2 k3=>
       cases k3
       rename_i u1 u2
       have hm':args.map a.eval= #[u1,u2]:=by apply Array.ext';simpa using hm
       have hs:=copy_sound (type:=type) hR k1 k2 h
       refine wp_of_ok (by simp) ?_ hk
       simpa [execOp,resolve,invoke,builtin,hm'] using hs
    ·simp at h
   ·split at h
    ·rename_i x has
     have e4:=evs_sound hg hT has
     generalize hm:args.toList.map a.eval=m at e4
     cases e4 with
     |cons k1 k2=>cases k2
                  rename_i u1
                  have hm':args.map a.eval= #[u1]:=by apply Array.ext';simpa using hm
                  have hs:=clear_sound (type:=type) hR k1 h
                  refine wp_of_ok (by simp) ?_ hk
                  simpa [execOp,resolve,invoke,builtin,hm'] using hs
    ·simp at h
   ·split at h
    ·rename_i s x has
     have e4:=evs_sound hg hT has
     generalize hm:args.toList.map a.eval=m at e4
     cases e4 with
     |cons k1 k2=>cases k2 with
      |cons k2 k3=>
       cases k3
       rename_i u1 u2
       have hm':args.map a.eval= #[u1,u2]:=by apply Array.ext';simpa using hm
       have hs:=unstr_sound (type:=type) hR k1 k2 h
       refine wp_of_ok (by simp) ?_ hk
       simpa [execOp,resolve,invoke,builtin,hm'] using hs
    ·simp at h
   ·simp at h
  case h_10 t hint=>
   subst hop
   split at h
   ·rename_i vs hvs
    have hm:=evs_mem hvs
    exact wp_of_ok (by simp) (makeMap_sound hR hG (opt_of_evs hg hT (o:=hint) fun y hy=>hm y (by simp [hy])) h).2 hk
   ·simp at h
  case h_11 t x ky ok=>
   subst hop
   split at h
   ·rename_i v key hx hy
    exact wp_of_ok (by simp) (lookup_sound hR (ev_sound hg hT hx) (ev_sound hg hT hy) h).2 hk
   ·simp at h
  case h_12 t x ky v=>
   subst hop
   split at h
   ·rename_i m key u hx hy hz
    exact wp_of_ok (by simp) (mapUpdate_sound hR (ev_sound hg hT hx) (ev_sound hg hT hy) (ev_sound hg hT hz) h).2 hk
   ·simp at h
  case h_13=>simp at h
end Go.Am
end
