/-
  Package hier: each of its laws for every argument; no conditions. The last text states which.
-/
import Derived.Test.YtdaglldahidmbaaGAmPw
noncomputable section
set_option linter.unusedVariables false
set_option linter.unusedSimpArgs false
namespace Go.Am
open Go
variable{P:Program}
def AccD(el:TypeId)(w:Nat)(M0:Mem)(n:Nat)(cs:List Value)(S:Value)(M:Mem):Prop:=(∃b,S=sli b 0 0 1∧n=0∧cs= []∧M0.next≤b∧M.get b=some ⟨[],el,w,0,true⟩)∨ ∃b,S=sli b 0 n n∧0<n∧cs.length=n*w∧M0.next≤b∧M.get b=some ⟨cs,el,w,0,true⟩
theorem accd_row{el:TypeId}{w n:Nat}{M0 M:Mem}{cs:List Value}{S:Value}{sT xT:TypeId}{α:Type}{g:α→List Value}{l:List α}{m c y:Nat}{a:Option Addr}(h:AccD el w M0 n cs S M)(hE:Ext M0 M)(hM:MemOk M)(hkt:keepT P el=false)(hs:P.underlying sT=some (.slice el))(hx:P.underlying xT=some (.slice el))(he:elemOf P el=some (w,y,true))(hw:0<w)(hy:y≤1024)(h97:Nat.beq w mapEsz=false)
  (hr:GRowsAt g w M (.slice a m c) l) (hn:n+l.length<1073741824) (hc: ∀r∈l,(g r).all isCell=true):
  ∃t S' M1,aappend P [sT,xT] S (.slice a m c) M=some ((bif t then 1 else 2),.val S',M1)∧Ext M0 M1∧MemOk M1∧AccD el w M0 (n+l.length) (cs++(l.map g).flatten) S' M1:=by
 unfold elemOf at he
 cases hi:P.info? el with
 |none=>rw[hi] at he;cases he
 |some e=>
  rw[hi] at he
  simp only [Option.map_some,Option.some.injEq] at he
  have hro:=roomy_of (n:=n+l.length) he hw hy (by omega)
  simp only [Prod.mk.injEq] at he
  obtain⟨rfl,rfl,_⟩:=he
  have hnl:=hr.len_eq
  subst hnl
  have hwd: ∀r∈l.map g,r.length=e.size:=fun r hr'=>by obtain⟨y,q,rfl⟩:=List.mem_map.1 hr';exact hr.wide y q
  have hlen:(l.map g).flatten.length=l.length*e.size:=by rw[rows_len hwd,List.length_map]
  have hall:(l.map g).flatten.all isCell=true:=by
   rw[List.all_eq_true]
   intro x hx
   obtain⟨r,k1,k2⟩:=List.mem_flatten.1 hx
   obtain⟨y,q,rfl⟩:=List.mem_map.1 k1
   exact List.all_eq_true.1 (hc y q) x k2
  have hf:firsts M e.size l.length (.slice a l.length c)=some (l.map g).flatten:=by
   by_cases h0:l.length=0
   ·have hl:l= []:=List.eq_nil_of_length_eq_zero h0
    subst hl
    cases a with
    |none=>rfl
    |some a=>
     simp only [firsts]
     cases M.get a.block with
     |none=>rfl
     |some b=>simp [range,takeN]
   ·rcases hr.at_ with⟨_,_,hh⟩|⟨b',o',c',blk,pre,post,h1,h2,h3,h4,_⟩
    ·omega
    ·simp only [Value.slice.injEq] at h1
     obtain⟨rfl,_,rfl⟩:=h1
     have hf:takeN (l.length*e.size) (blk.cs.drop o')=some (l.map g).flatten:=by
      rw[h3,←h4,List.append_assoc,List.drop_left,←hlen]
      exact takeN_app _ _
     simp only [firsts,h2,range,hf]
  have hm: ∀cs':List Value,isMapB ⟨cs',el,e.size,0,true⟩=false:=fun cs'=>by unfold isMapB;rw[h97];rfl
  have hbn:l.length≠0→l.length.beq 0=false:=fun h0=>by
   cases hb:l.length.beq 0
   ·rfl
   ·exact absurd (Nat.eq_of_beq_eq_true hb) h0
  rcases h with⟨b,rfl,rfl,rfl,hb,hg⟩|⟨b,rfl,h1,h2,hb,hg⟩
  ·by_cases h0:l.length=0
   ·have hl:l= []:=List.eq_nil_of_length_eq_zero h0
    subst hl
    refine⟨true,sli b 0 0 1,M,?_,hE,hM,.inl ⟨b,rfl,rfl,rfl,hb,hg⟩⟩
    unfold aappend
    simp only [List.length_nil] at hro hf⊢
    simp only [hs,hx,hi,lenV,isIntD,hf,hg,range,hro]
    simp [takeN]
   ·obtain⟨b',M1,e1,e2,e3,e4,e5⟩:=new_t hM ⟨(l.map g).flatten,el,e.size,0,true⟩ (hm _)
    refine⟨true,sli b' 0 (0+l.length) (0+l.length),M1,?_,hE.trans e4,e5,.inr ⟨b',rfl,by omega,by rw[List.nil_append,hlen,Nat.zero_add],by have:=hE.next;omega,e3⟩⟩
    rw[←e1,←e2]
    have h5:=hbn h0
    have h6:Nat.ble 1 (0+l.length)=true:=Nat.ble_eq_true_of_le (by omega)
    unfold aappend
    simp only [hs,hx,hi,lenV,isIntD,hf,hg,range,hro,hall,hlen,Nat.zero_mul,takeN,List.nil_append,h5,h6]
    simp [made,anew,Nat.beq_refl]
    rfl
  ·have hold:takeN (n*e.size) (cs.drop 0)=some cs:=by
    rw[List.drop_zero,←h2]
    exact takeN_all rfl
   by_cases h0:l.length=0
   ·have hl:l= []:=List.eq_nil_of_length_eq_zero h0
    subst hl
    refine⟨true,sli b 0 n n,M,?_,hE,hM,.inr ⟨b,rfl,h1,by simpa using h2,hb,by simpa using hg⟩⟩
    unfold aappend
    simp only [List.length_nil] at hro hf⊢
    simp only [hs,hx,hi,lenV,isIntD,hf,hg,range,hro,hold]
    simp
   ·obtain⟨b',M1,e1,e2,e3,e4,e5,_⟩:=grow_t hE hb hM ⟨cs++(l.map g).flatten,el,e.size,0,true⟩ (hm _)
    refine⟨false,sli b' 0 (n+l.length) (n+l.length),M1,?_,e4,e5,.inr ⟨b',rfl,by omega,by rw[List.length_append,h2,hlen,Nat.add_mul],by have:=hE.next;omega,e3⟩⟩
    rw[←e1,←e2]
    have h5:=hbn h0
    unfold aappend
    simp only [hs,hx,hi,lenV,isIntD,hf,hg,range,hro,hall,hlen,hold,hkt,h5]
    simp
    rw[Nat.ble_eq_true_of_le (Nat.zero_le _)]
    rfl
end Go.Am
end
