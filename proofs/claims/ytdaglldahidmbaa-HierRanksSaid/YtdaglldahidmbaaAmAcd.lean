/-
  Package hier: each of its laws for every argument; no conditions. The last text states which.
-/
import Derived.Test.YtdaglldahidmbaaGAmPw
noncomputable section
set_option linter.unusedVariables false
set_option linter.unusedSimpArgs false
namespace Go.Am
open Go
variable{P:Program}
def Mu(el:TypeId)(w:Nat)(M0:aA)(n:Nat)(cs:List Value)(S:Value)(M:aA):Prop:=(∃b,S=aD b 0 0 1/\n=0/\cs= []/\M0.next<=b/\M.get b=some ⟨[],el,w,0,true⟩)\/ ∃b,S=aD b 0 n n/\0<n/\cs.length=n*w/\M0.next<=b/\M.get b=some ⟨cs,el,w,0,true⟩
theorem Ou{el:TypeId}{w n:Nat}{M0 M:aA}{cs:List Value}{S:Value}{sT xT:TypeId}{α:Type}{g:α->List Value}{l:List α}{m c y:Nat}{a:Option Addr}(h:Mu el w M0 n cs S M)(hE:Ext M0 M)(hM:aB M)(hkt:Bm P el=false)(hs:P.underlying sT=some (.slice el))(hx:P.underlying xT=some (.slice el))(he:elemOf P el=some (w,y,true))(hw:0<w)(hy:y<=1024)(h97:Nat.beq w oB=false)
  (hr:aK g w M (.slice a m c) l) (hn:n+l.length<1073741824) (hc: ∀r∈l,(g r).all isCell=true):
  ∃t S' M1,dJ P [sT,xT] S (.slice a m c) M=some ((bif t then 1 else 2),.val S',M1)/\Ext M0 M1/\aB M1/\Mu el w M0 (n+l.length) (cs++(l.map g).flatten) S' M1:=by
 unfold elemOf at he
 cases hi:P.info? el with
 |none=>rw[hi] at he;cases he
 |some e=>
  rw[hi] at he
  simp only [Option.map_some,Option.some.injEq] at he
  have hro:=sL (n:=n+l.length) he hw hy (by omega)
  simp only [Prod.mk.injEq] at he
  obtain⟨rfl,rfl,_⟩:=he
  have hnl:=hr.len_eq
  subst hnl
  have hwd: ∀r∈l.map g,r.length=e.size:=fun r hr'=>by obtain⟨y,q,rfl⟩:=List.mem_map.1 hr';exact hr.wide y q
  have hlen:(l.map g).flatten.length=l.length*e.size:=by rw[Cq hwd,List.length_map]
  have hall:(l.map g).flatten.all isCell=true:=by
   rw[List.all_eq_true]
   intro x hx
   obtain⟨r,k1,k2⟩:=List.mem_flatten.1 hx
   obtain⟨y,q,rfl⟩:=List.mem_map.1 k1
   exact List.all_eq_true.1 (hc y q) x k2
  have hf:jM M e.size l.length (.slice a l.length c)=some (l.map g).flatten:=by
   by_cases h0:l.length=0
   ·have hl:l= []:=List.eq_nil_of_length_eq_zero h0
    subst hl
    cases a with
    |none=>rfl
    |some a=>
     simp only [jM]
     cases M.get a.block with
     |none=>rfl
     |some b=>simp [range,dA]
   ·rcases hr.at_ with⟨_,_,hh⟩|⟨b',o',c',blk,pre,post,h1,h2,h3,h4,_⟩
    ·omega
    ·simp only [Value.slice.injEq] at h1
     obtain⟨rfl,_,rfl⟩:=h1
     have hf:dA (l.length*e.size) (blk.cs.drop o')=some (l.map g).flatten:=by
      rw[h3,<-h4,List.append_assoc,List.drop_left,<-hlen]
      exact tG _ _
     simp only [jM,h2,range,hf]
  have hm: ∀cs':List Value,dD ⟨cs',el,e.size,0,true⟩=false:=fun cs'=>by unfold dD;rw[h97];rfl
  have hbn:l.length≠0->l.length.beq 0=false:=fun h0=>by
   cases hb:l.length.beq 0
   ·rfl
   ·exact absurd (Nat.eq_of_beq_eq_true hb) h0
  rcases h with⟨b,rfl,rfl,rfl,hb,hg⟩|⟨b,rfl,h1,h2,hb,hg⟩
  ·by_cases h0:l.length=0
   ·have hl:l= []:=List.eq_nil_of_length_eq_zero h0
    subst hl
    refine⟨true,aD b 0 0 1,M,?_,hE,hM,.inl ⟨b,rfl,rfl,rfl,hb,hg⟩⟩
    unfold dJ
    simp only [List.length_nil] at hro hf⊢
    simp only [hs,hx,hi,oA,kM,hf,hg,range,hro]
    simp [dA]
   ·obtain⟨b',M1,e1,e2,e3,e4,e5⟩:=bG hM ⟨(l.map g).flatten,el,e.size,0,true⟩ (hm _)
    refine⟨true,aD b' 0 (0+l.length) (0+l.length),M1,?_,hE.trans e4,e5,.inr ⟨b',rfl,by omega,by rw[List.nil_append,hlen,Nat.zero_add],by have:=hE.next;omega,e3⟩⟩
    rw[<-e1,<-e2]
    have h5:=hbn h0
    have h6:Nat.ble 1 (0+l.length)=true:=Nat.ble_eq_true_of_le (by omega)
    unfold dJ
    simp only [hs,hx,hi,oA,kM,hf,hg,range,hro,hall,hlen,Nat.zero_mul,dA,List.nil_append,h5,h6]
    simp [made,mX,Nat.beq_refl]
    rfl
  ·have hold:dA (n*e.size) (cs.drop 0)=some cs:=by
    rw[List.drop_zero,<-h2]
    exact yA rfl
   by_cases h0:l.length=0
   ·have hl:l= []:=List.eq_nil_of_length_eq_zero h0
    subst hl
    refine⟨true,aD b 0 n n,M,?_,hE,hM,.inr ⟨b,rfl,h1,by simpa using h2,hb,by simpa using hg⟩⟩
    unfold dJ
    simp only [List.length_nil] at hro hf⊢
    simp only [hs,hx,hi,oA,kM,hf,hg,range,hro,hold]
    simp
   ·obtain⟨b',M1,e1,e2,e3,e4,e5,_⟩:=rZ hE hb hM ⟨cs++(l.map g).flatten,el,e.size,0,true⟩ (hm _)
    refine⟨false,aD b' 0 (n+l.length) (n+l.length),M1,?_,e4,e5,.inr ⟨b',rfl,by omega,by rw[List.length_append,h2,hlen,Nat.add_mul],by have:=hE.next;omega,e3⟩⟩
    rw[<-e1,<-e2]
    have h5:=hbn h0
    unfold dJ
    simp only [hs,hx,hi,oA,kM,hf,hg,range,hro,hall,hlen,hold,hkt,h5]
    simp
    rw[Nat.ble_eq_true_of_le (Nat.zero_le _)]
    rfl
end Go.Am
end
