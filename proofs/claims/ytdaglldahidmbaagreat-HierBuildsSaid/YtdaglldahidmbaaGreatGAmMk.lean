/-
  Package hier: each of its laws for every argument; no conditions. The last text states which.
-/
import Derived.Test.YtdaglldahidmbaaGreatGAmBk
import Derived.Test.YtdaglldahidmbaaGreatGAmPw
import Derived.Test.YtdaglldahidmbaaGreatGAmTree
set_option linter.unusedVariables false
set_option linter.unusedSimpArgs false
noncomputable section
namespace Go.Am
open Go
def aW(k d:Int):Int:=IntKind.wrap .i64 (k.tdiv d)
def oZ(N md k:Int):E4:=
 ⟨aE k N,aE (aW k 13) N,
  bif aE md 3==(0:Int) then aE (IntKind.wrap .i64 (aE k N+aE (aW k 13) N)) 2 else bif aE md 3==(1:Int) then aE (IntKind.wrap .i64 (aE (aW k 170) 5*aE k N)) 3 else aE (aW k 170) 5,
  bif aE k 31==(0:Int) then IntKind.wrap .i64 ((2147483647:Int)-aE (aW k 31) 3) else aE (aW k 900) 9⟩
def uZ(size:Int):Nat:=1+(aE size 12).toNat
def Gj(size:Int)(ns:List Int)(md:Int):List E4:=(ns.take 40).map (oZ ((uZ size:Nat):Int) md)
theorem rI(size:Int):1<=uZ size/\uZ size<=12:=by have:=jE (x:=size) (n:=12) (by decide);unfold uZ;omega
theorem aAd(size:Int):IntKind.wrap .i64 ((1:Int)+aE size 12)=((uZ size:Nat):Int):=by
 have:=jE (x:=size) (n:=12) (by decide);have e:((uZ size:Nat):Int)=1+aE size 12:=by unfold uZ;omega
 rw[e];exact fU (by omega) (by omega)
theorem Qb{N:Int}(hN:1<=N)(md k:Int):iW N (oZ N md k)=true:=by
 have h1:=jE (x:=k) (n:=N) (by omega);have h2:=jE (x:=aW k 13) (n:=N) (by omega);have h3:=jE (x:=aW k 170) (n:=5) (by decide);have h4:=jE (x:=aW k 900) (n:=9) (by decide);have h5:=jE (x:=aW k 31) (n:=3) (by decide);have h6:=jE (x:=IntKind.wrap .i64 (aE k N+aE (aW k 13) N)) (n:=2) (by decide);have h7:=jE (x:=IntKind.wrap .i64 (aE (aW k 170) 5*aE k N)) (n:=3) (by decide);have h8:IntKind.wrap .i64 ((2147483647:Int)-aE (aW k 31) 3)=2147483647-aE (aW k 31) 3:=fU (by omega) (by omega);unfold iW oZ gH;simp only [Bool.and_eq_true,decide_eq_true_eq];refine⟨⟨⟨⟨⟨h1.1,h1.2⟩,h2.1,h2.2⟩,?_⟩,?_⟩,?_⟩
 ·cases aE md 3==(0:Int)<;>cases aE md 3==(1:Int)<;>simp only [cond_true,cond_false]<;>omega
 ·cases aE k 31==(0:Int)<;>simp only [cond_true,cond_false]<;>omega
 ·cases aE k 31==(0:Int)<;>simp only [cond_true,cond_false]<;>omega
theorem Nv(size:Int)(ns:List Int)(md:Int):fF ((uZ size:Nat):Int) (Gj size ns md)=true:=by
 have hN:=rI size;unfold fF iB;simp only [Bool.and_eq_true,Bool.not_eq_true',Bool.or_eq_false_iff,Bool.not_eq_false',decide_eq_true_eq,decide_eq_false_iff_not,List.all_eq_true];refine⟨⟨⟨by omega,by omega⟩,?_⟩,fun e he=>?_⟩
 ·simp [Gj];omega
 ·obtain⟨k,_,rfl⟩:=List.mem_map.1 he;exact Qb (by omega) md k
end Go.Am
end

noncomputable section
namespace Go.Am
open Go
variable{P:Program}
def cM(el:TypeId)(w:Nat)(M0:aB)(bad:List Nat)(n:Nat)(cs:List Value)(S:Value)(M:aB):Prop:=(S=dP/\n=0/\cs=[])\/∃b,S=aC b 0 n n/\0<n/\cs.length=n*w/\M0.next<=b/\b∉bad/\M.get b=some ⟨cs,el,w,0,true⟩
section
variable{el:TypeId}{w n:Nat}{M0 M M':aB}{bad:List Nat}{cs:List Value}{S:Value}
theorem cM.isCell(h:cM el w M0 bad n cs S M):Go.Am.isCell S=true:=by rcases h with⟨rfl,_⟩|⟨_,rfl,_⟩<;>rfl
theorem cM.ext(h:cM el w M0 bad n cs S M)(hE:Ext M M'):cM el w M0 bad n cs S M':=by
 rcases h with h|⟨b,h1,h2,h3,h4,h5,h6⟩
 ·exact .inl h
 ·exact .inr ⟨b,h1,h2,h3,h4,h5,hE.old h6⟩
theorem cM.same(h:cM el w M0 bad n cs S M)(hE:∀id b,M.get id=some b->M'.get id=some b):cM el w M0 bad n cs S M':=by
 rcases h with h|⟨b,h1,h2,h3,h4,h5,h6⟩
 ·exact .inl h
 ·exact .inr ⟨b,h1,h2,h3,h4,h5,hE _ _ h6⟩
theorem cM.new{x:Nat}(h:cM el w M0 bad n cs S M)(hx:M.next=x)(hE:Ext M M'):cM el w M0 (x::bad) n cs S M':=by
 rcases h with h|⟨b,h1,h2,h3,h4,h5,h6⟩
 ·exact .inl h
 ·refine .inr ⟨b,h1,h2,h3,h4,?_,hE.old h6⟩;have:=aB.lt_of_get h6;simp only [List.mem_cons,not_or];exact⟨by omega,h5⟩
theorem cM.keep{x:Nat}(h:cM el w M0 bad n cs S M)(hx:x∈bad)(hk:∀id,id≠x->id<M.next->M'.get id=M.get id):cM el w M0 bad n cs S M':=by
 rcases h with h|⟨b,h1,h2,h3,h4,h5,h6⟩
 ·exact .inl h
 ·exact .inr ⟨b,h1,h2,h3,h4,h5,(hk b (fun e=>h5 (e▸hx)) (aB.lt_of_get h6)).trans h6⟩
theorem cM.less{bad':List Nat}(h:cM el w M0 bad n cs S M)(hb:∀x∈bad',x∈bad):cM el w M0 bad' n cs S M:=by
 rcases h with h|⟨b,h1,h2,h3,h4,h5,h6⟩
 ·exact .inl h
 ·exact .inr ⟨b,h1,h2,h3,h4,fun e=>h5 (hb b e),h6⟩
theorem fJ{sT xT y bx o c:Nat}{blk:aR}{new:List Value}(h:cM el w M0 bad n cs S M)(hE:Ext M0 M)(hM:aA M)(hb:∀x∈bad,x<M.next)(a1:Ah P el=false)(hs:P.underlying sT=some (.slice el))(hx:P.underlying xT=some (.slice el))(he:elemOf P el=some (w,y,true))(hw:0<w)(hy:y<=1024)(a0:Nat.beq w nY=false)(hn:n<1073741824)
  (hg:M.get bx=some blk) (ht:dJ w (blk.cs.drop o)=some new) (hc:new.all Go.Am.isCell=true) (hl:new.length=w):
  ∃t S' M1,dM P [sT,xT] S (aC bx o 1 c) M=some ((bif t then 1 else 2),.val S',M1)/\Ext M0 M1/\aA M1/\cM el w M0 bad (n+1) (cs++new) S' M1/\(∀id b,M.get id=some b->id∈bad->M1.get id=some b)/\∀id b,M.get id=some b->(∀m o c,S≠aC id o m c)->M1.get id=some b:=by
 rcases h with⟨rfl,rfl,rfl⟩|⟨b,rfl,h2,h3,h4,h5,h6⟩
 ·have hm:dS ⟨new,el,w,0,true⟩=false:=by unfold dS;rw[a0];rfl
  obtain⟨b',M1,e1,e2,e3,e4,e5⟩:=bG hM ⟨new,el,w,0,true⟩ hm;refine⟨true,aC b' 0 1 1,M1,?_,hE.trans e4,e5,.inr ⟨b',rfl,Nat.one_pos,by simp [hl],by have:=hE.next;omega,fun hh=>by have:=hb _ hh;omega,by simpa using e3⟩,fun id k g _=>e4.old g,fun id k g _=>e4.old g⟩;rw[<-e1,<-e2];exact append_nil hs hx he hw hy hg ht hc hl
 ·have hm:dS ⟨cs++new,el,w,0,true⟩=false:=by unfold dS;rw[a0];rfl
  obtain⟨b',M1,e1,e2,e3,e4,e5,e6⟩:=tT hE h4 hM ⟨cs++new,el,w,0,true⟩ hm;have hlt:=aB.lt_of_get h6;refine⟨false,aC b' 0 (n+1) (n+1),M1,?_,e4,e5,.inr ⟨b',rfl,Nat.succ_pos _,by rw[List.length_append,h3,hl,Nat.succ_mul],by have:=hE.next;omega,fun hh=>by have:=hb _ hh;omega,e3⟩,fun id k g hid=>(e6 id (fun e=>h5 (e▸hid)) (aB.lt_of_get g)).trans g,fun id k g hid=>(e6 id (fun e=>hid n 0 n (by rw[e])) (aB.lt_of_get g)).trans g⟩;rw[<-e1,<-e2];exact kE a1 hs hx he hw hy hn hg ht hc hl h6 h3 rfl rfl rfl rfl
end
end Go.Am
end

noncomputable section
namespace Go.Am
open Go Go.ChangeShapes Go.WideShapes
variable{P:Program}{w:World}{H:Type}{enc:TypeId×Value->H}{S E:TypeId}{d:Nat}
theorem Ob{α:Type}{g:α->List Value}{a2:Bool}(hT:Ha g enc P S E d){r:Reach}{base n:Nat}{v:Value}{dt:DataW H}{p:List MemPlace}(a0:Value.okWide P w r base S v)(h:DataW.Trod enc P w 0 (fun _=>true) a2 S v dt p):
  ∃m bs φ0 l a c,Ew P w n m bs φ0/\(∀φ:dX,φ0.le φ->bH φ (.slice a l.length c) v)/\∀M,Has M bs->aG g d M (.slice a l.length c) l:=by
 obtain⟨a1,h⟩:=h
 obtain⟨u,hu,m,bs,φ0,l,a,c,h1,h2,h3⟩:=Qd hT a1 n _ _ h
 refine⟨m,bs,φ0,l,a,c,h1,fun φ hφ=>?_,h3⟩
 have hv:v=u:=by
  unfold Value.okWide at a0;rw[hT.us] at a0;simp only at a0;cases v with
  |agg cs=>
   exfalso
   unfold Cell.okWide at a0
   rw[hT.us] at a0
   simp only at a0
   unfold Cell.ok at a0
   rw[hT.us] at a0
   exact a0
  |_=>simp [Value.cells] at hu;exact hu
 rw[hv]
 exact h2 φ hφ
theorem Ys{I:TypeId}(hs:P.underlying S=some (.slice I))(hi:P.underlying I=some (.int .i64))(hc:P.cellsOf I=1):Ha Np enc P S I 1 where
 flat:=fun _=>rfl
 us:=hs
 cells:=hc
 pos:=by decide
 row:=fun{w base nf held cs y} h=>by
  obtain⟨z,h1,_⟩:=DataW.trod_int hi h;exact⟨z,rfl,h1⟩
theorem Qz{P:Program}{ts:List TypeId}(h:ts.all (fun t=>P.readableRec t&&Nat.blt t P.types.size)=true):∀t∈ts,P.readableRec t=true/\t<P.types.size:=by intro t ht;have:=List.all_eq_true.1 h t ht;simp only [Bool.and_eq_true] at this;exact⟨this.1,xAd this.2⟩
end Go.Am
end

noncomputable section
set_option linter.unusedVariables false
set_option linter.unusedSimpArgs false
namespace Go.Am
open Go
variable{P:Program}
def Pm(el:TypeId)(w:Nat)(M0:aB)(n:Nat)(cs:List Value)(S:Value)(M:aB):Prop:=(∃b,S=aC b 0 0 1/\n=0/\cs=[]/\M0.next<=b/\M.get b=some ⟨[],el,w,0,true⟩)\/∃b,S=aC b 0 n n/\0<n/\cs.length=n*w/\M0.next<=b/\M.get b=some ⟨cs,el,w,0,true⟩
theorem Rm{el:TypeId}{w n:Nat}{M0 M:aB}{cs:List Value}{S:Value}{sT xT:TypeId}{α:Type}{g:α->List Value}{l:List α}{m c y:Nat}{a:Option Addr}(h:Pm el w M0 n cs S M)(hE:Ext M0 M)(hM:aA M)(a6:Ah P el=false)(hs:P.underlying sT=some (.slice el))(hx:P.underlying xT=some (.slice el))(he:elemOf P el=some (w,y,true))(hw:0<w)(hy:y<=1024)(a5:Nat.beq w nY=false)
  (hr:aG g w M (.slice a m c) l) (hn:n+l.length<1073741824) (hc:∀r∈l,(g r).all isCell=true):
  ∃t S' M1,dM P [sT,xT] S (.slice a m c) M=some ((bif t then 1 else 2),.val S',M1)/\Ext M0 M1/\aA M1/\Pm el w M0 (n+l.length) (cs++(l.map g).flatten) S' M1:=by
 unfold elemOf at he
 cases hi:P.info? el with
 |none=>rw[hi] at he;cases he
 |some e=>
  rw[hi] at he
  simp only [Option.map_some,Option.some.injEq] at he
  have a1:=rM (n:=n+l.length) he hw hy (by omega)
  simp only [Prod.mk.injEq] at he
  obtain⟨rfl,rfl,_⟩:=he
  have a7:=hr.len_eq
  subst a7
  have a8:∀r∈l.map g,r.length=e.size:=fun r hr'=>by obtain⟨y,q,rfl⟩:=List.mem_map.1 hr';exact hr.wide y q
  have a0:(l.map g).flatten.length=l.length*e.size:=by rw[yA a8,List.length_map]
  have a2:(l.map g).flatten.all isCell=true:=by
   rw[List.all_eq_true];intro x hx;obtain⟨r,k1,k2⟩:=List.mem_flatten.1 hx;obtain⟨y,q,rfl⟩:=List.mem_map.1 k1;exact List.all_eq_true.1 (hc y q) x k2
  have hf:iS M e.size l.length (.slice a l.length c)=some (l.map g).flatten:=by
   by_cases h0:l.length=0
   ·have hl:l=[]:=List.eq_nil_of_length_eq_zero h0;subst hl;cases a with
    |none=>rfl
    |some a=>
     simp only [iS]
     cases M.get a.block with
     |none=>rfl
     |some b=>simp [range,dJ]
   ·rcases hr.at_ with⟨_,_,hh⟩|⟨b',o',c',blk,pre,post,h1,h2,h3,h4,_⟩
    ·omega
    ·simp only [Value.slice.injEq] at h1;obtain⟨rfl,_,rfl⟩:=h1;have hf:dJ (l.length*e.size) (blk.cs.drop o')=some (l.map g).flatten:=by
      rw[h3,<-h4,List.append_assoc,List.drop_left,<-a0];exact rQ _ _
     simp only [iS,h2,range,hf]
  have hm:∀cs':List Value,dS ⟨cs',el,e.size,0,true⟩=false:=fun cs'=>by unfold dS;rw[a5];rfl
  have a4:l.length≠0->l.length.beq 0=false:=fun h0=>by
   cases hb:l.length.beq 0
   ·rfl
   ·exact absurd (xBa hb) h0
  rcases h with⟨b,rfl,rfl,rfl,hb,hg⟩|⟨b,rfl,h1,h2,hb,hg⟩
  ·by_cases h0:l.length=0
   ·have hl:l=[]:=List.eq_nil_of_length_eq_zero h0;subst hl;refine⟨true,aC b 0 0 1,M,?_,hE,hM,.inl ⟨b,rfl,rfl,rfl,hb,hg⟩⟩;unfold dM;simp only [List.length_nil] at a1 hf⊢;simp only [hs,hx,hi,nX,kL,hf,hg,range,a1];simp [dJ]
   ·obtain⟨b',M1,e1,e2,e3,e4,e5⟩:=bG hM ⟨(l.map g).flatten,el,e.size,0,true⟩ (hm _);refine⟨true,aC b' 0 (0+l.length) (0+l.length),M1,?_,hE.trans e4,e5,.inr ⟨b',rfl,by omega,by rw[List.nil_append,a0,Nat.zero_add],by have:=hE.next;omega,e3⟩⟩;rw[<-e1,<-e2];have h5:=a4 h0;have h6:Nat.ble 1 (0+l.length)=true:=Nat.ble_eq_true_of_le (by omega);unfold dM;simp only [hs,hx,hi,nX,kL,hf,hg,range,a1,a2,a0,Nat.zero_mul,dJ,List.nil_append,h5,h6];simp [made,nT,Nat.beq_refl];rfl
  ·have a3:dJ (n*e.size) (cs.drop 0)=some cs:=by
    rw[List.drop_zero,<-h2];exact zQ rfl
   by_cases h0:l.length=0
   ·have hl:l=[]:=List.eq_nil_of_length_eq_zero h0;subst hl;refine⟨true,aC b 0 n n,M,?_,hE,hM,.inr ⟨b,rfl,h1,by simpa using h2,hb,by simpa using hg⟩⟩;unfold dM;simp only [List.length_nil] at a1 hf⊢;simp only [hs,hx,hi,nX,kL,hf,hg,range,a1,a3];simp
   ·obtain⟨b',M1,e1,e2,e3,e4,e5,_⟩:=tT hE hb hM ⟨cs++(l.map g).flatten,el,e.size,0,true⟩ (hm _);refine⟨false,aC b' 0 (n+l.length) (n+l.length),M1,?_,e4,e5,.inr ⟨b',rfl,by omega,by rw[List.length_append,h2,a0,Nat.add_mul],by have:=hE.next;omega,e3⟩⟩;rw[<-e1,<-e2];have h5:=a4 h0;unfold dM;simp only [hs,hx,hi,nX,kL,hf,hg,range,a1,a2,a0,a3,a6,h5];simp;rw[Nat.ble_eq_true_of_le (Nat.zero_le _)];rfl
end Go.Am
end
