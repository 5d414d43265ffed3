/-
  Package hier: each of its laws for every argument; no conditions. The last text states which.
-/
import Derived.Test.YtdaglldahidmbaaGreatGAmBk
import Derived.Test.YtdaglldahidmbaaGreatGAmPw
import Derived.Test.YtdaglldahidmbaaGreatGAmTree
set_option linter.unusedVariables false
set_option linter.unusedSimpArgs false
noncomputable section
namespace Go.Am
open Go
def aM(k d:Int):Int:=IntKind.wrap .i64 (k.tdiv d)
def oV(N md k:Int):E4:=
 ⟨aD k N,aD (aM k 13) N,
  bif aD md 3==(0:Int) then aD (IntKind.wrap .i64 (aD k N+aD (aM k 13) N)) 2 else bif aD md 3==(1:Int) then aD (IntKind.wrap .i64 (aD (aM k 170) 5*aD k N)) 3 else aD (aM k 170) 5,
  bif aD k 31==(0:Int) then IntKind.wrap .i64 ((2147483647:Int)-aD (aM k 31) 3) else aD (aM k 900) 9⟩
def kQ(size:Int):Nat:=1+(aD size 12).toNat
def wQ(size:Int)(ns:List Int)(md:Int):List E4:=(ns.take 40).map (oV ((kQ size:Nat):Int) md)
theorem mT(size:Int):1<=kQ size/\kQ size<=12:=by
 have:=iY (x:=size) (n:=12) (by decide)
 unfold kQ;omega
theorem aAr(size:Int):IntKind.wrap .i64 ((1:Int)+aD size 12)=((kQ size:Nat):Int):=by
 have:=iY (x:=size) (n:=12) (by decide)
 have e:((kQ size:Nat):Int)=1+aD size 12:=by unfold kQ;omega
 rw[e]
 exact eG (by omega) (by omega)
theorem Qh{N:Int}(hN:1<=N)(md k:Int):iI N (oV N md k)=true:=by
 have h1:=iY (x:=k) (n:=N) (by omega)
 have h2:=iY (x:=aM k 13) (n:=N) (by omega)
 have h3:=iY (x:=aM k 170) (n:=5) (by decide)
 have h4:=iY (x:=aM k 900) (n:=9) (by decide)
 have h5:=iY (x:=aM k 31) (n:=3) (by decide)
 have h6:=iY (x:=IntKind.wrap .i64 (aD k N+aD (aM k 13) N)) (n:=2) (by decide)
 have h7:=iY (x:=IntKind.wrap .i64 (aD (aM k 170) 5*aD k N)) (n:=3) (by decide)
 have h8:IntKind.wrap .i64 ((2147483647:Int)-aD (aM k 31) 3)=2147483647-aD (aM k 31) 3:=eG (by omega) (by omega)
 unfold iI oV eM
 simp only [Bool.and_eq_true,decide_eq_true_eq]
 refine⟨⟨⟨⟨⟨h1.1,h1.2⟩,h2.1,h2.2⟩,?_⟩,?_⟩,?_⟩
 ·cases aD md 3==(0:Int)<;>cases aD md 3==(1:Int)<;>simp only [cond_true,cond_false]<;>omega
 ·cases aD k 31==(0:Int)<;>simp only [cond_true,cond_false]<;>omega
 ·cases aD k 31==(0:Int)<;>simp only [cond_true,cond_false]<;>omega
theorem wF(size:Int)(ns:List Int)(md:Int):fC ((kQ size:Nat):Int) (wQ size ns md)=true:=by
 have hN:=mT size
 unfold fC gA
 simp only [Bool.and_eq_true,Bool.not_eq_true',Bool.or_eq_false_iff,Bool.not_eq_false',decide_eq_true_eq,decide_eq_false_iff_not,List.all_eq_true]
 refine⟨⟨⟨by omega,by omega⟩,?_⟩,fun e he=> ?_⟩
 ·simp [wQ];omega
 ·obtain⟨k,_,rfl⟩:=List.mem_map.1 he
  exact Qh (by omega) md k
end Go.Am
end

noncomputable section
namespace Go.Am
open Go
variable{P:Program}
def cR(el:TypeId)(w:Nat)(M0:aB)(bad:List Nat)(n:Nat)(cs:List Value)(S:Value)(M:aB):Prop:=(S=eW/\n=0/\cs= [])\/ ∃b,S=aC b 0 n n/\0<n/\cs.length=n*w/\M0.next<=b/\b∉bad/\M.get b=some ⟨cs,el,w,0,true⟩
section
variable{el:TypeId}{w n:Nat}{M0 M M':aB}{bad:List Nat}{cs:List Value}{S:Value}
theorem cR.isCell(h:cR el w M0 bad n cs S M):Go.Am.isCell S=true:=by rcases h with⟨rfl,_⟩|⟨_,rfl,_⟩<;>rfl
theorem cR.ext(h:cR el w M0 bad n cs S M)(hE:Ext M M'):cR el w M0 bad n cs S M':=by
 rcases h with h|⟨b,h1,h2,h3,h4,h5,h6⟩
 ·exact .inl h
 ·exact .inr ⟨b,h1,h2,h3,h4,h5,hE.old h6⟩
theorem cR.same(h:cR el w M0 bad n cs S M)(hE: ∀id b,M.get id=some b->M'.get id=some b):cR el w M0 bad n cs S M':=by
 rcases h with h|⟨b,h1,h2,h3,h4,h5,h6⟩
 ·exact .inl h
 ·exact .inr ⟨b,h1,h2,h3,h4,h5,hE _ _ h6⟩
theorem cR.new{x:Nat}(h:cR el w M0 bad n cs S M)(hx:M.next=x)(hE:Ext M M'):cR el w M0 (x::bad) n cs S M':=by
 rcases h with h|⟨b,h1,h2,h3,h4,h5,h6⟩
 ·exact .inl h
 ·refine .inr ⟨b,h1,h2,h3,h4,?_,hE.old h6⟩
  have:=aB.lt_of_get h6
  simp only [List.mem_cons,not_or]
  exact⟨by omega,h5⟩
theorem cR.keep{x:Nat}(h:cR el w M0 bad n cs S M)(hx:x∈bad)(hk: ∀id,id≠x->id<M.next->M'.get id=M.get id):cR el w M0 bad n cs S M':=by
 rcases h with h|⟨b,h1,h2,h3,h4,h5,h6⟩
 ·exact .inl h
 ·exact .inr ⟨b,h1,h2,h3,h4,h5,(hk b (fun e=>h5 (e▸hx)) (aB.lt_of_get h6)).trans h6⟩
theorem cR.less{bad':List Nat}(h:cR el w M0 bad n cs S M)(hb: ∀x∈bad',x∈bad):cR el w M0 bad' n cs S M:=by
 rcases h with h|⟨b,h1,h2,h3,h4,h5,h6⟩
 ·exact .inl h
 ·exact .inr ⟨b,h1,h2,h3,h4,fun e=>h5 (hb b e),h6⟩
theorem fX{sT xT y bx o c:Nat}{blk:aU}{new:List Value}(h:cR el w M0 bad n cs S M)(hE:Ext M0 M)(hM:aA M)(hb: ∀x∈bad,x<M.next)(a1:Aj P el=false)(hs:P.underlying sT=some (.slice el))(hx:P.underlying xT=some (.slice el))(he:elemOf P el=some (w,y,true))(hw:0<w)(hy:y<=1024)(a0:Nat.beq w pA=false)(hn:n<1073741824)
  (hg:M.get bx=some blk) (ht:cP w (blk.cs.drop o)=some new) (hc:new.all Go.Am.isCell=true) (hl:new.length=w):
  ∃t S' M1,cX P [sT,xT] S (aC bx o 1 c) M=some ((bif t then 1 else 2),.val S',M1)/\Ext M0 M1/\aA M1/\cR el w M0 bad (n+1) (cs++new) S' M1/\(∀id b,M.get id=some b->id∈bad->M1.get id=some b)/\ ∀id b,M.get id=some b->(∀m o c,S≠aC id o m c)->M1.get id=some b:=by
 rcases h with⟨rfl,rfl,rfl⟩|⟨b,rfl,h2,h3,h4,h5,h6⟩
 ·have hm:dL ⟨new,el,w,0,true⟩=false:=by unfold dL;rw[a0];rfl
  obtain⟨b',M1,e1,e2,e3,e4,e5⟩:=bC hM ⟨new,el,w,0,true⟩ hm
  refine⟨true,aC b' 0 1 1,M1,?_,hE.trans e4,e5,.inr ⟨b',rfl,Nat.one_pos,by simp [hl],by have:=hE.next;omega,fun hh=>by have:=hb _ hh;omega,by simpa using e3⟩,fun id k g _=>e4.old g,fun id k g _=>e4.old g⟩
  rw[<-e1,<-e2]
  exact append_nil hs hx he hw hy hg ht hc hl
 ·have hm:dL ⟨cs++new,el,w,0,true⟩=false:=by unfold dL;rw[a0];rfl
  obtain⟨b',M1,e1,e2,e3,e4,e5,e6⟩:=tO hE h4 hM ⟨cs++new,el,w,0,true⟩ hm
  have hlt:=aB.lt_of_get h6
  refine⟨false,aC b' 0 (n+1) (n+1),M1,?_,e4,e5,.inr ⟨b',rfl,Nat.succ_pos _,by rw[List.length_append,h3,hl,Nat.succ_mul],by have:=hE.next;omega,fun hh=>by have:=hb _ hh;omega,e3⟩,fun id k g hid=>(e6 id (fun e=>h5 (e▸hid)) (aB.lt_of_get g)).trans g,fun id k g hid=>(e6 id (fun e=>hid n 0 n (by rw[e])) (aB.lt_of_get g)).trans g⟩
  rw[<-e1,<-e2]
  exact nI a1 hs hx he hw hy hn hg ht hc hl h6 h3 rfl rfl rfl rfl
end
end Go.Am
end

noncomputable section
namespace Go.Am
open Go Go.ChangeShapes Go.WideShapes
variable{P:Program}{w:World}{H:Type}{enc:TypeId×Value->H}{S E:TypeId}{d:Nat}
theorem Ol{α:Type}{g:α->List Value}{a2:Bool}(hT:Hi g enc P S E d){r:Reach}{base n:Nat}{v:Value}{dt:DataW H}{p:List MemPlace}(a0:Value.okWide P w r base S v)(h:DataW.Trod enc P w 0 (fun _=>true) a2 S v dt p):
  ∃m bs φ0 l a c,Ez P w n m bs φ0/\(∀φ:dK,φ0.le φ->bE φ (.slice a l.length c) v)/\ ∀M,Has M bs->aJ g d M (.slice a l.length c) l:=by
 obtain⟨a1,h⟩:=h
 obtain⟨u,hu,m,bs,φ0,l,a,c,h1,h2,h3⟩:=Qj hT a1 n _ _ h
 refine⟨m,bs,φ0,l,a,c,h1,fun φ hφ=> ?_,h3⟩
 have hv:v=u:=by
  unfold Value.okWide at a0
  rw[hT.us] at a0
  simp only at a0
  cases v with
  |agg cs=>
   exfalso
   unfold Cell.okWide at a0
   rw[hT.us] at a0
   simp only at a0
   unfold Cell.ok at a0
   rw[hT.us] at a0
   exact a0
  |_=>simp [Value.cells] at hu;exact hu
 rw[hv]
 exact h2 φ hφ
theorem Zn{I:TypeId}(hs:P.underlying S=some (.slice I))(hi:P.underlying I=some (.int .i64))(hc:P.cellsOf I=1):Hi Oa enc P S I 1 where
 flat:=fun _=>rfl
 us:=hs
 cells:=hc
 pos:=by decide
 row:=fun{w base nf held cs y} h=>by
  obtain⟨z,h1,_⟩:=DataW.trod_int hi h
  exact⟨z,rfl,h1⟩
theorem Rg{P:Program}{ts:List TypeId}(h:ts.all (fun t=>P.readableRec t&&Nat.blt t P.types.size)=true): ∀t∈ts,P.readableRec t=true/\t<P.types.size:=by
 intro t ht
 have:=List.all_eq_true.1 h t ht
 simp only [Bool.and_eq_true] at this
 exact⟨this.1,xAd this.2⟩
end Go.Am
end

noncomputable section
set_option linter.unusedVariables false
set_option linter.unusedSimpArgs false
namespace Go.Am
open Go
variable{P:Program}
def Pr(el:TypeId)(w:Nat)(M0:aB)(n:Nat)(cs:List Value)(S:Value)(M:aB):Prop:=(∃b,S=aC b 0 0 1/\n=0/\cs= []/\M0.next<=b/\M.get b=some ⟨[],el,w,0,true⟩)\/ ∃b,S=aC b 0 n n/\0<n/\cs.length=n*w/\M0.next<=b/\M.get b=some ⟨cs,el,w,0,true⟩
theorem Rs{el:TypeId}{w n:Nat}{M0 M:aB}{cs:List Value}{S:Value}{sT xT:TypeId}{α:Type}{g:α->List Value}{l:List α}{m c y:Nat}{a:Option Addr}(h:Pr el w M0 n cs S M)(hE:Ext M0 M)(hM:aA M)(a6:Aj P el=false)(hs:P.underlying sT=some (.slice el))(hx:P.underlying xT=some (.slice el))(he:elemOf P el=some (w,y,true))(hw:0<w)(hy:y<=1024)(a5:Nat.beq w pA=false)
  (hr:aJ g w M (.slice a m c) l) (hn:n+l.length<1073741824) (hc: ∀r∈l,(g r).all isCell=true):
  ∃t S' M1,cX P [sT,xT] S (.slice a m c) M=some ((bif t then 1 else 2),.val S',M1)/\Ext M0 M1/\aA M1/\Pr el w M0 (n+l.length) (cs++(l.map g).flatten) S' M1:=by
 unfold elemOf at he
 cases hi:P.info? el with
 |none=>rw[hi] at he;cases he
 |some e=>
  rw[hi] at he
  simp only [Option.map_some,Option.some.injEq] at he
  have a1:=pM (n:=n+l.length) he hw hy (by omega)
  simp only [Prod.mk.injEq] at he
  obtain⟨rfl,rfl,_⟩:=he
  have a7:=hr.len_eq
  subst a7
  have a8: ∀r∈l.map g,r.length=e.size:=fun r hr'=>by obtain⟨y,q,rfl⟩:=List.mem_map.1 hr';exact hr.wide y q
  have a0:(l.map g).flatten.length=l.length*e.size:=by rw[Ek a8,List.length_map]
  have a2:(l.map g).flatten.all isCell=true:=by
   rw[List.all_eq_true]
   intro x hx
   obtain⟨r,k1,k2⟩:=List.mem_flatten.1 hx
   obtain⟨y,q,rfl⟩:=List.mem_map.1 k1
   exact List.all_eq_true.1 (hc y q) x k2
  have hf:iV M e.size l.length (.slice a l.length c)=some (l.map g).flatten:=by
   by_cases h0:l.length=0
   ·have hl:l= []:=List.eq_nil_of_length_eq_zero h0
    subst hl
    cases a with
    |none=>rfl
    |some a=>
     simp only [iV]
     cases M.get a.block with
     |none=>rfl
     |some b=>simp [range,cP]
   ·rcases hr.at_ with⟨_,_,hh⟩|⟨b',o',c',blk,pre,post,h1,h2,h3,h4,_⟩
    ·omega
    ·simp only [Value.slice.injEq] at h1
     obtain⟨rfl,_,rfl⟩:=h1
     have hf:cP (l.length*e.size) (blk.cs.drop o')=some (l.map g).flatten:=by
      rw[h3,<-h4,List.append_assoc,List.drop_left,<-a0]
      exact uP _ _
     simp only [iV,h2,range,hf]
  have hm: ∀cs':List Value,dL ⟨cs',el,e.size,0,true⟩=false:=fun cs'=>by unfold dL;rw[a5];rfl
  have a4:l.length≠0->l.length.beq 0=false:=fun h0=>by
   cases hb:l.length.beq 0
   ·rfl
   ·exact absurd (xBa hb) h0
  rcases h with⟨b,rfl,rfl,rfl,hb,hg⟩|⟨b,rfl,h1,h2,hb,hg⟩
  ·by_cases h0:l.length=0
   ·have hl:l= []:=List.eq_nil_of_length_eq_zero h0
    subst hl
    refine⟨true,aC b 0 0 1,M,?_,hE,hM,.inl ⟨b,rfl,rfl,rfl,hb,hg⟩⟩
    unfold cX
    simp only [List.length_nil] at a1 hf⊢
    simp only [hs,hx,hi,nW,jX,hf,hg,range,a1]
    simp [cP]
   ·obtain⟨b',M1,e1,e2,e3,e4,e5⟩:=bC hM ⟨(l.map g).flatten,el,e.size,0,true⟩ (hm _)
    refine⟨true,aC b' 0 (0+l.length) (0+l.length),M1,?_,hE.trans e4,e5,.inr ⟨b',rfl,by omega,by rw[List.nil_append,a0,Nat.zero_add],by have:=hE.next;omega,e3⟩⟩
    rw[<-e1,<-e2]
    have h5:=a4 h0
    have h6:Nat.ble 1 (0+l.length)=true:=Nat.ble_eq_true_of_le (by omega)
    unfold cX
    simp only [hs,hx,hi,nW,jX,hf,hg,range,a1,a2,a0,Nat.zero_mul,cP,List.nil_append,h5,h6]
    simp [made,nQ,Nat.beq_refl]
    rfl
  ·have a3:cP (n*e.size) (cs.drop 0)=some cs:=by
    rw[List.drop_zero,<-h2]
    exact rI rfl
   by_cases h0:l.length=0
   ·have hl:l= []:=List.eq_nil_of_length_eq_zero h0
    subst hl
    refine⟨true,aC b 0 n n,M,?_,hE,hM,.inr ⟨b,rfl,h1,by simpa using h2,hb,by simpa using hg⟩⟩
    unfold cX
    simp only [List.length_nil] at a1 hf⊢
    simp only [hs,hx,hi,nW,jX,hf,hg,range,a1,a3]
    simp
   ·obtain⟨b',M1,e1,e2,e3,e4,e5,_⟩:=tO hE hb hM ⟨cs++(l.map g).flatten,el,e.size,0,true⟩ (hm _)
    refine⟨false,aC b' 0 (n+l.length) (n+l.length),M1,?_,e4,e5,.inr ⟨b',rfl,by omega,by rw[List.length_append,h2,a0,Nat.add_mul],by have:=hE.next;omega,e3⟩⟩
    rw[<-e1,<-e2]
    have h5:=a4 h0
    unfold cX
    simp only [hs,hx,hi,nW,jX,hf,hg,range,a1,a2,a0,a3,a6,h5]
    simp
    rw[Nat.ble_eq_true_of_le (Nat.zero_le _)]
    rfl
end Go.Am
end
