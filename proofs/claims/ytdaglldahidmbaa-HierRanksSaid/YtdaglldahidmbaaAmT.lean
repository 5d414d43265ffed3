/-
  Package hier: each of its laws for every argument; no conditions. The last text states which.
-/
import Derived.Test.YtdaglldahidmbaaAmE
import Derived.Test.YtdaglldahidmbaaGAmLoop
set_option linter.unusedVariables false
set_option linter.unusedSimpArgs false
noncomputable section
namespace Go.Am
open Go
variable{P:Program}{GL:List Nat}{B:Bd}{SP:cZ}
theorem No:gJ P SP []:=fun p hp=>by cases hp
theorem Bj{x:OQ}{q:qH}(h:x.holds P SP)(hq:gJ P SP q):gJ P SP (x::q):=fun p hp=>by
 rcases List.mem_cons.1 hp with rfl|hp
 ·exact h
 ·exact hq p hp
theorem Gy{x t:Bool}(h:x=t):OQ.holds P SP (.q (.bool x) (fM t)):=by subst h;rfl
theorem eW{i:Int}{n:Nat}{a:Dy}(h0:0<=i)(h1:i<n):OQ.holds P SP (.q (.inb i n) a):=by
 show Lh i n=true
 simp [Lh,h0,h1]
theorem q_nz{q:Int}{a:Dy}(h:q≠0):OQ.holds P SP (.q (.nz q) a):=h
theorem bZ{x:Db}{a:Dy}(h:x=some a)(ha:a.1≠0):OQ.holds P SP (.eq x a):=⟨h,ha⟩
theorem iP{t:TypeId}{a:Addr}{M Mx:aA}{v:Value}{k:Nat}(h:aX P t a M=some v):OQ.holds P SP (.q (.load t a M) (k,.val v,Mx)):=⟨v,rfl,h⟩
theorem eF{t:TypeId}{a:Addr}{v:Value}{M M1:aA}(h:eC P t a v M=some M1):OQ.holds P SP (.q (.store t a v M) (2,.skip,M1)):=⟨M1,rfl,h⟩
theorem jD{tys:List TypeId}{s x:Value}{M:aA}{a:Dy}(h:dJ P tys s x M=some a)(ha:a.1≠0):OQ.holds P SP (.q (.append tys s x M) a):=⟨h,ha⟩
theorem aN{K:List Value->aA->Value->aA->Prop}{f:FuncId}{args:List Value}{M M' M1:aA}{v:Value}(hs:SP.calls f=some (pick K))(hp:pick K args {M with log:= []}=some (v,M'))(hl:jZ M.next M'.log= [])(hb:back M M'=M1):
  OQ.holds P SP (.cl f args M (1,.val v,M1)):=by subst hb;exact Uy hs hp hl
theorem fH{l:List (FuncId×(List Value->aA->Option (Value×aA)))}{bl:List (Nat×(Code->St->Option (cH×St)))}{id:Nat}{b:QC}{nt:Nat}{ks:List Nat}{vs:List (Option Value)}{M M':aA}{e:cH}{T':Tr Value}(hb:tP bl id=some (bone b nt ks vs M e T' M')):
  OQ.holds P (sM l bl) (.blk id b nt ks vs M e T' M'):=Ku hb
theorem aB.ext{M M':aA}(h:aB M)(hE:Ext M M'):aB M':=fun id hid=>Nat.lt_of_lt_of_le (h id (by rw[<-hE.hide];exact hid)) hE.next
theorem aB.log{M:aA}{l:List Nat}(h:aB M):aB {M with log:=l}:=h
theorem bG{M:aA}(hM:aB M)(blk:aW)(hm:dD blk=false:=by rfl): ∃b M1,M.next=b/\M.alloc blk=M1/\M1.get b=some blk/\Ext M M1/\aB M1:=
 ⟨_,_,rfl,rfl,lY hM blk hm,Ext.alloc M blk,hM.ext (Ext.alloc M blk)⟩
theorem bH{t:TypeId}{b o:Nat}{v:Value}{M M0:aA}{blk:aW}{n:Nat}{new:List Value}(hE:Ext M0 M)(hb:M0.next<=b)(hM:aB M)(hi:(P.info? t).map (·.size)=some n)(hg:M.get b=some blk)(hv:v.cells.toList.length=n)(hc:v.cells.toList.all isCell=true)(hw:blk.wf<=o)(hl:o+n<=blk.cs.length)(hn:splice blk.cs o v.cells.toList=new):
  ∃M1,eC P t ⟨b,o,none⟩ v M=some M1/\M1.get b=some {blk with cs:=new}/\(∀id,id≠b->M1.get id=M.get id)/\Ext M0 M1/\aB M1/\M1.log=b::M.log:=by
 refine⟨_,Nd hi (a:=⟨b,o,none⟩) hg hv hc hw hl,?_,fun id hid=>sY _ hid,hE.put _ hb,hM,rfl⟩
 obtain⟨k1,k2,_,k4⟩:=bR.1 hg
 rw[Jj _ k1 k2,hn]
 have h5:dD {blk with cs:=new}=false:=k4
 simp [Mc,h5]
def lQ(P:Program)(GL:List Nat)(f:FuncId)(Q:List Value->aA->Value->aA->Prop):List Value->aA->Value->aA->Prop:=fun args M v M'=>Ev P GL f args M v M'/\Ext M M'/\Q args M v M'
theorem lQ.ok{f:FuncId}{Q:List Value->aA->Value->aA->Prop}(B:Bd):cV P GL B f (pick (lQ P GL f Q)):=cV.pick fun _ _ _ _ h=>h.1
theorem Uz{f:FuncId}{Q:List Value->aA->Value->aA->Prop}{args:List Value}{M:aA}(hM:aB M)(hK: ∃v M',lQ P GL f Q args {M with log:= []} v M'):
  ∃v M' M1,pick (lQ P GL f Q) args {M with log:= []}=some (v,M')/\jZ M.next M'.log= []/\back M M'=M1/\Ext M M1/\aB M1/\Q args {M with log:= []} v M'/\ ∀id,M1.get id=M'.get id:=by
 obtain⟨v,M',h1,_,h3,h4⟩:=Ez hK
 obtain⟨L,k1,k2⟩:=h3.log
 refine⟨v,M',_,h1,?_,rfl,h3.back,hM.ext h3.back,h4,Ib h3.hide⟩
 rw[k1]
 simp only [List.append_nil]
 exact Aj k2
theorem tG: ∀(l r:List Value),dA l.length (l++r)=some l
 | [],_=>by simp [dA]
 |v::l,r=>by simp [dA,tG l r]
end Go.Am
end
noncomputable section
namespace Go.Am
open Go
variable{P:Program}{GL:List Nat}{B:Bd}{SP:cZ}
def QC.loopIn(id:Nat):QC->Option QC
 | .seq a b=>match a.loopIn id with|some r=>some r|none=>b.loopIn id
 | .cond _ a b=>match a.loopIn id with|some r=>some r|none=>b.loopIn id
 | .block i b=>bif Nat.beq i id then(match b with| .loop c=>some c|_=>none) else b.loopIn id
 | .loop b=>b.loopIn id
 | .scope b=>b.loopIn id
 |_=>none
def QC.loopAt(q:QC)(id:Nat):QC:=(q.loopIn id).getD .bad
theorem Ev.told_tmp(hN:dU P)(hm:P.follows .mixedOrders=true){f:FuncId}{fn:Func}{q:QC}{tb:List Nat}{n k:Nat}{args:List Value}{M M':aA}{v:Value}{F:List OF}{qs:qH}
  (hf:P.funcs[f]?=some fn) (hq:aL P f=some q) (hl:Nat.ble args.length fn.ntmps=true) (hr:fn.results= #[.tmp k]) (hS: ∀B,cJ P GL B SP) (hB: ∀id,fF id tb=false->SP.blocks id=none)
  (hx:(oX P GL tb n fn.ntmps q (mO args 0 .nil) M F 0).map (fun r=>(r.1.1,r.1.2.1.get k,r.1.2.2,r.2.2.2))=some (.ret,some v,M',qs)) (hh:gJ P SP qs):
  Ev P GL f args M v M':=by
 refine Ev.told hN hm hf hq hl hS hB (e:= .ret) (n:=n) (F:=F) (qs:=qs) ?_ (.inl rfl) hh
 cases a0:oX P GL tb n fn.ntmps q (mO args 0 .nil) M F 0 with
 |none=>rw[a0] at hx;cases hx
 |some r=>
  rw[a0] at hx
  simp only [Option.map_some,Option.some.injEq,Prod.mk.injEq] at hx⊢
  refine⟨hx.1,?_,hx.2.2⟩
  unfold lB
  rw[hr]
  simp only [yJ,Hx,hx.2.1]
theorem Ev.told_cell(hN:dU P)(hm:P.follows .mixedOrders=true){f:FuncId}{fn:Func}{q:QC}{tb:List Nat}{n k b o:Nat}{t:TypeId}{args:List Value}{M M':aA}{v:Value}{F:List OF}{qs:qH}
  (hf:P.funcs[f]?=some fn) (hq:aL P f=some q) (hl:Nat.ble args.length fn.ntmps=true) (hr:fn.results= #[.cell k t]) (hS: ∀B,cJ P GL B SP) (hB: ∀id,fF id tb=false->SP.blocks id=none)
  (hx:(oX P GL tb n fn.ntmps q (mO args 0 .nil) M F 0).map (fun r=>(r.1.1,r.1.2.1.get k,r.1.2.2,r.2.2.2))=some (.ret,some (.pointer (some ⟨b,o,none⟩)),M',qs)) (hv:aX P t ⟨b,o,none⟩ M'=some v) (hh:gJ P SP qs):
  Ev P GL f args M v M':=by
 refine Ev.told hN hm hf hq hl hS hB (e:= .ret) (n:=n) (F:=F) (qs:=qs) ?_ (.inl rfl) hh
 cases a0:oX P GL tb n fn.ntmps q (mO args 0 .nil) M F 0 with
 |none=>rw[a0] at hx;cases hx
 |some r=>
  rw[a0] at hx
  simp only [Option.map_some,Option.some.injEq,Prod.mk.injEq] at hx⊢
  refine⟨hx.1,?_,hx.2.2⟩
  unfold lB
  rw[hr]
  simp only [yJ,Hx,hx.2.1,hx.2.2.1,hv]
theorem aA.lt_of_get{M:aA}{id:Nat}{b:aW}(h:M.get id=some b):id<M.next:=(bR.1 h).1
end Go.Am
end
noncomputable section
namespace Go.Am
open Go
theorem cF{id k:Nat}{g:Code->St->Option (cH×St)}(h:fF id [k]=false):tP [(k,g)] id=none:=by
 unfold tP
 have:Nat.beq id k=false:=by
  cases hb:Nat.beq id k
  ·rfl
  ·have:=Nat.eq_of_beq_eq_true hb
   subst this
   simp [fF] at h
 rw[this]
 rfl
end Go.Am
end
noncomputable section
namespace Go.Am
open Go
theorem Ev.of_spec{P:Program}{GL:List Nat}{f:FuncId}{g:List Value->aA->Option (Value×aA)}{args:List Value}{M M':aA}{v:Value}(h: ∀B,cV P GL B f g)(hg:g args M=some (v,M')):Ev P GL f args M v M':=
 ⟨(h 0).abs args M v M' hg,fun B=>(h B).run args M v M' hg⟩
end Go.Am
end
noncomputable section
namespace Go.Am
open Go
variable{P:Program}
def elemOf(P:Program)(t:TypeId):Option (Nat×Nat×Bool):=(P.info? t).map fun e=>(e.size,e.bytes,Hd e)
theorem sL{e:TypeInfo}{w y n:Nat}(h:(e.size,e.bytes,Hd e)=(w,y,true))(hw:0<w)(hy:y<=1024)(hn:n<=1073741824):tX e n=true:=by
 simp only [Prod.mk.injEq] at h
 obtain⟨rfl,rfl,h3⟩:=h
 unfold tX
 rw[h3]
 have h1:Nat.beq e.size 0=false:=by
  cases hb:Nat.beq e.size 0
  ·rfl
  ·have:=Nat.eq_of_beq_eq_true hb;omega
 have h2:n*e.bytes<=1073741824*1024:=Nat.mul_le_mul hn hy
 rw[h1,Nat.ble_eq_true_of_le (show n<=2^40 by omega),Nat.ble_eq_true_of_le (show n*e.bytes<=2^40 by omega),Nat.ble_eq_true_of_le (show e.bytes<=2^40 by omega)]
 rfl
theorem append_nil{sT xT elem:TypeId}{M:aA}{bx o c w y:Nat}{blk:aW}{new:List Value}(hs:P.underlying sT=some (.slice elem))(hx:P.underlying xT=some (.slice elem))(he:elemOf P elem=some (w,y,true))(hw:0<w)(hy:y<=1024)
  (hg:M.get bx=some blk) (ht:dA w (blk.cs.drop o)=some new) (hc:new.all isCell=true) (hl:new.length=w):
  dJ P [sT,xT] (.slice none 0 0) (.slice (some ⟨bx,o,none⟩) 1 c) M=some (1,.val (.slice (some ⟨M.next,0,none⟩) 1 1),M.alloc ⟨new,elem,w,0,true⟩):=by
 unfold elemOf at he
 cases hi:P.info? elem with
 |none=>rw[hi] at he;cases he
 |some e=>
  rw[hi] at he
  simp only [Option.map_some,Option.some.injEq] at he
  have hr:=sL (n:=1) he hw hy (by omega)
  simp only [Prod.mk.injEq] at he
  obtain⟨rfl,rfl,_⟩:=he
  unfold dJ
  simp only [hs,hx,hi,oA,kM,jM,hg,range,Nat.one_mul,ht,hr,hc,hl]
  simp [made,mX]
  rfl
theorem jJ{sT xT elem:TypeId}{M:aA}{a bx o c w y len:Nat}{blk b0:aW}{new:List Value}(hkt:Bm P elem=false)(hs:P.underlying sT=some (.slice elem))(hx:P.underlying xT=some (.slice elem))(he:elemOf P elem=some (w,y,true))(hw:0<w)(hy:y<=1024)(hlen:len<1073741824)
  (hg:M.get bx=some blk) (ht:dA w (blk.cs.drop o)=some new) (hc:new.all isCell=true) (hl:new.length=w) (h0:M.get a=some b0) (hcs:b0.cs.length=len*w) (hel:b0.elem=elem) (hez:b0.esz=w) (hwf:b0.wf=0) (happ:b0.app=true):
  dJ P [sT,xT] (.slice (some ⟨a,0,none⟩) len len) (.slice (some ⟨bx,o,none⟩) 1 c) M=some (2,.val (.slice (some ⟨M.next,0,none⟩) (len+1) (len+1)),(M.put a none).alloc ⟨b0.cs++new,elem,w,0,true⟩):=by
 unfold elemOf at he
 cases hi:P.info? elem with
 |none=>rw[hi] at he;cases he
 |some e=>
  rw[hi] at he
  simp only [Option.map_some,Option.some.injEq] at he
  have hr:=sL (n:=len+1) he hw hy (by omega)
  simp only [Prod.mk.injEq] at he
  obtain⟨rfl,rfl,_⟩:=he
  unfold dJ
  have hold:dA (len*e.size) (b0.cs.drop 0)=some b0.cs:=by
   rw[List.drop_zero,<-hcs]
   exact yA rfl
  simp only [hs,hx,hi,oA,kM,jM,hg,range,Nat.one_mul,ht,hr,hc,hl,h0,hold,hez,hel,hwf,happ,hkt]
  simp
  rw[Nat.ble_eq_true_of_le (Nat.zero_le _)]
  rfl
end Go.Am
end
noncomputable section
namespace Go.Am
open Go
theorem Ext.aside{M R:aA}(h:Ext M R):Ext {M with log:= []} {R with log:= []}:=⟨h.next,h.hide,h.get,[],rfl,fun t ht=>by cases ht⟩
theorem Ext.join{M R M':aA}(h:Ext M R)(k:Ext {M with log:= []} M'):Ext M {M' with log:=M'.log++R.log}:=
 ⟨k.next,k.hide,k.get,by
  obtain⟨L,h1,h2⟩:=h.log
  obtain⟨L',k1,k2⟩:=k.log
  refine⟨L'++L,?_,fun t ht=> ?_⟩
  ·show M'.log++R.log=_
   rw[h1,k1]
   simp
  ·rcases List.mem_append.1 ht with ht|ht
   ·exact k2 t ht
   ·exact h2 t ht⟩
theorem dZ{P:Program}{SP:cZ}{S l:List Nat}(h: ∀b∈S,b∉l):OQ.holds P SP (.q (.bool (cQ S l)) (fM true)):=by
 refine Gy ?_
 induction S with
 |nil=>rfl
 |cons b S ih=>
  simp only [cQ,ih fun x hx=>h x (List.mem_cons_of_mem _ hx),Bool.and_true,Bool.not_eq_true']
  have hb:=h b (List.mem_cons_self ..)
  clear h ih
  induction l with
  |nil=>rfl
  |cons x l ih=>
   simp only [List.mem_cons,not_or] at hb
   simp only [fF,ih hb.2,Bool.or_false]
   cases hx:Nat.beq x b
   ·rfl
   ·exact absurd (Nat.eq_of_beq_eq_true hx).symm hb.1
theorem mE{P:Program}{SP:cZ}{a b:Nat}(h:a<b):OQ.holds P SP (.q (.bool (Nat.blt a b)) (fM true)):=Gy (Nat.ble_eq_true_of_le h)
end Go.Am
end
noncomputable section
namespace Go.Am
open Go
variable{P:Program}{SP:cZ}
abbrev qT(x:Bool):OQ:= .q (.bool x) (fM true)
abbrev qF(x:Bool):OQ:= .q (.bool x) (fM false)
abbrev qL(t:TypeId)(b o:Nat)(M:aA)(v:Value):OQ:= .q (.load t ⟨b,o,none⟩ M) (1,.val v,Je)
abbrev qS(t:TypeId)(b o:Nat)(v:Value)(M M1:aA):OQ:= .q (.store t ⟨b,o,none⟩ v M) (2,.skip,M1)
abbrev qC(f:FuncId)(args:List Value)(M:aA)(v:Value)(M1:aA):OQ:= .cl f args M (1,.val v,M1)
abbrev aM(p:Nat):OF:= .at p (fM true)
abbrev aO(p:Nat):OF:= .at p (fM false)
abbrev aU(p:Nat)(v:Value):OF:= .at p (1,.val v,Je)
abbrev bL(p:Nat)(v:Value)(M:aA):OF:= .at p (1,.val v,M)
abbrev lP(p:Nat)(M:aA):OF:= .at p (2,.skip,M)
abbrev aD(b o n c:Nat):Value:= .slice (some ⟨b,o,none⟩) n c
abbrev cI:Value:= .slice none 0 0
theorem hk{x:OQ}{q:qH}(h:x.holds P SP)(hq:gJ P SP q):gJ P SP (x::q):=Bj h hq
theorem hq(x:OQ){q:qH}(h:x.holds P SP)(hq:gJ P SP q):gJ P SP (x::q):=Bj h hq
theorem qI(i:Int)(n:Nat)(h0:0<=i)(h1:i<n):OQ.holds P SP (.q (.inb i n) (fM true)):=eW h0 h1
theorem lD{t:TypeId}{b o:Nat}{M:aA}{v:Value}(h:aX P t ⟨b,o,none⟩ M=some v):OQ.holds P SP (qL t b o M v):=iP h
theorem hn:gJ P SP []:=No
theorem lC{t:TypeId}{b o:Nat}{M:aA}{blk:aW}{v:Value}(hd:(P.underlying t).map dX=some false)(g:M.get b=some blk)(h:blk.cs[o]?=some v):OQ.holds P SP (qL t b o M v):=iP (bW (a:=⟨b,o,none⟩) hd g h)
theorem lA{t:TypeId}{b o n:Nat}{M:aA}{blk:aW}{l:List Value}(hd:(P.underlying t).map dX=some true/\(P.info? t).map (·.size)=some n)(g:M.get b=some blk)(h:dA n (blk.cs.drop o)=some l):OQ.holds P SP (qL t b o M (.agg ⟨l⟩)):=iP (lZ (a:=⟨b,o,none⟩) hd.1 hd.2 g h)
theorem bT{x:Bool}(h:x=true):OQ.holds P SP (qT x):=Gy h
theorem bF{x:Bool}(h:x=false):OQ.holds P SP (qF x):=Gy h
end Go.Am
end
noncomputable section
namespace Go.Am
open Go
abbrev oT(P:Program)(tb:List Nat)(n:Nat)(fn:Func)(q:QC)(args:List Value)(M:aA)(F:List OF)(k:Nat):=(oX P [] tb n fn.ntmps q (mO args 0 .nil) M F 0).map (fun r=>(r.1.1,r.1.2.1.get k,r.1.2.2,r.2.2.2))
abbrev oR(P:Program)(tb:List Nat)(n:Nat)(fn:Func)(q:QC)(T:List (Nat×Value))(M:aA)(F:List OF)(ks:List Nat):=(oX P [] tb n fn.ntmps q (fr T) M F 0).map (fun r=>(r.1.1,ks.map r.1.2.1.get,r.1.2.2,r.2.2.2))
theorem aG(P:Program)(B:Bd):cJ P [] B (sM [] []):=tD (fun p hp=>by cases hp) (fun p hp=>by cases hp)
end Go.Am
end
noncomputable section
namespace Go.Am
open Go
theorem lN{P:Program}{SP:cZ}{a:Option Addr}{n c:Nat}(h:a.isNone=true->n=0/\c=0):OQ.holds P SP (.ln a n c):=h
end Go.Am
end
