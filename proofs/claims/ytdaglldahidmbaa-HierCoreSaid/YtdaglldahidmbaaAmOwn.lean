/-
  Package hier: each of its laws for every argument; no conditions. The last text states which.
-/
import Derived.Test.YtdaglldahidmbaaGAmMk
import Derived.Test.YtdaglldahidmbaaGAmPw
noncomputable section
set_option linter.unusedVariables false
set_option linter.unusedSimpArgs false
namespace Go.Am
open Go
variable{P:Program}
def OwnS(n c:Nat)(cs:List Value):Prop:=(n=0/\c=1/\cs= [])\/(0<n/\c=n)
theorem Xa{el:TypeId}{w n c:Nat}{M0 M:aA}{cs:List Value}{b:Nat}{sT xT:TypeId}{α:Type}{g:α->List Value}{l:List α}{m cx y:Nat}{a:Option Addr}(hE:Ext M0 M)(hS:OwnS n c cs)(h2:cs.length=n*w)(hb:M0.next<=b)(hg:M.get b=some ⟨cs,el,w,0,true⟩)(hM:aB M)(a7:xQ P el=false)(hs:P.underlying sT=some (.slice el))(hx:P.underlying xT=some (.slice el))(he:elemOf P el=some (w,y,true))(hw:0<w)(hy:y<=1024)(a6:Nat.beq w nZ=false)
  (hr:aI g w M (.slice a m cx) l) (hn:n+l.length<1073741824) (hc: ∀r∈l,(g r).all isCell=true):
  ∃t b' c' M1,cU P [sT,xT] (aC b 0 n c) (.slice a m cx) M=some ((bif t then 1 else 2),.val (aC b' 0 (n+l.length) c'),M1)/\Ext M0 M1/\aB M1/\M0.next<=b'/\M1.get b'=some ⟨cs++(l.map g).flatten,el,w,0,true⟩/\OwnS (n+l.length) c' (cs++(l.map g).flatten)/\(cs++(l.map g).flatten).length=(n+l.length)*w/\(∀id k,M.get id=some k->id≠b->M1.get id=some k)/\(b'=b\/M.next<=b')/\(n=0->t=true)/\(0<n->0<l.length->t=false)/\M.next<=M1.next/\M1.log=(bif t then[] else[b])++M.log:=by
 unfold elemOf at he
 cases hi:P.info? el with
 |none=>rw[hi] at he;cases he
 |some e=>
  rw[hi] at he
  simp only [Option.map_some,Option.some.injEq] at he
  have a1:=rL (n:=n+l.length) he hw hy (by omega)
  simp only [Prod.mk.injEq] at he
  obtain⟨rfl,rfl,_⟩:=he
  have a8:=hr.len_eq
  subst a8
  have a9: ∀r∈l.map g,r.length=e.size:=fun r hr'=>by obtain⟨y,q,rfl⟩:=List.mem_map.1 hr';exact hr.wide y q
  have a0:(l.map g).flatten.length=l.length*e.size:=by rw[yD a9,List.length_map]
  have a2:(l.map g).flatten.all isCell=true:=by
   rw[List.all_eq_true]
   intro x hx
   obtain⟨r,k1,k2⟩:=List.mem_flatten.1 hx
   obtain⟨y,q,rfl⟩:=List.mem_map.1 k1
   exact List.all_eq_true.1 (hc y q) x k2
  have hf:iR M e.size l.length (.slice a l.length cx)=some (l.map g).flatten:=by
   by_cases h0:l.length=0
   ·have hl:l= []:=List.eq_nil_of_length_eq_zero h0
    subst hl
    cases a with
    |none=>rfl
    |some a=>
     simp only [iR]
     cases M.get a.block with
     |none=>rfl
     |some b=>simp [range,dB]
   ·rcases hr.at_ with⟨_,_,hh⟩|⟨b',o',c',blk,pre,post,h1,h2,h3,h4,_⟩
    ·omega
    ·simp only [Value.slice.injEq] at h1
     obtain⟨rfl,_,rfl⟩:=h1
     have hf:dB (l.length*e.size) (blk.cs.drop o')=some (l.map g).flatten:=by
      rw[h3,<-h4,List.append_assoc,List.drop_left,<-a0]
      exact rP _ _
     simp only [iR,h2,range,hf]
  have hm: ∀cs':List Value,dG ⟨cs',el,e.size,0,true⟩=false:=fun cs'=>by unfold dG;rw[a6];rfl
  have a5:l.length≠0->l.length.beq 0=false:=fun h0=>by
   cases hb:l.length.beq 0
   ·rfl
   ·exact absurd (Nat.eq_of_beq_eq_true hb) h0
  have a4:(cs++(l.map g).flatten).length=(n+l.length)*e.size:=by rw[List.length_append,h2,a0,Nat.add_mul]
  have hlt:=aA.lt_of_get hg
  rcases hS with⟨rfl,rfl,rfl⟩|⟨h1,rfl⟩
  ·by_cases h0:l.length=0
   ·have hl:l= []:=List.eq_nil_of_length_eq_zero h0
    subst hl
    refine⟨true,b,1,M,?_,hE,hM,hb,by simpa using hg,.inl ⟨rfl,rfl,rfl⟩,a4,fun _ _ h _=>h,.inl rfl,fun _=>rfl,fun h=>absurd h (by omega),Nat.le_refl _,rfl⟩
    unfold cU
    simp only [List.length_nil] at a1 hf⊢
    simp only [hs,hx,hi,mV,jB,hf,hg,range,a1]
    simp [dB]
   ·obtain⟨b',M1,e1,e2,e3,e4,e5⟩:=bE hM ⟨(l.map g).flatten,el,e.size,0,true⟩ (hm _)
    refine⟨true,b',0+l.length,M1,?_,hE.trans e4,e5,by have:=hE.next;omega,by simpa using e3,.inr ⟨by omega,rfl⟩,a4,fun _ _ h _=>e4.old h,.inr (by omega),fun _=>rfl,fun h=>absurd h (by omega),e4.next,by rw[<-e2];rfl⟩
    rw[<-e1,<-e2]
    have h5:=a5 h0
    have h6:Nat.ble 1 (0+l.length)=true:=Nat.ble_eq_true_of_le (by omega)
    unfold cU
    simp only [hs,hx,hi,mV,jB,hf,hg,range,a1,a2,a0,Nat.zero_mul,dB,List.nil_append,h5,h6]
    simp [made,nV,Nat.beq_refl]
    rfl
  ·have a3:dB (c*e.size) (cs.drop 0)=some cs:=by
    rw[List.drop_zero,<-h2]
    exact uW rfl
   by_cases h0:l.length=0
   ·have hl:l= []:=List.eq_nil_of_length_eq_zero h0
    subst hl
    refine⟨true,b,c,M,?_,hE,hM,hb,by simpa using hg,.inr ⟨by simpa using h1,by simp⟩,a4,fun _ _ h _=>h,.inl rfl,fun _=>rfl,fun _ h=>absurd h (by simp),Nat.le_refl _,rfl⟩
    unfold cU
    simp only [List.length_nil] at a1 hf⊢
    simp only [hs,hx,hi,mV,jB,hf,hg,range,a1,a3]
    simp
   ·obtain⟨b',M1,e1,e2,e3,e4,e5,e6⟩:=wK hE hb hM ⟨cs++(l.map g).flatten,el,e.size,0,true⟩ (hm _)
    refine⟨false,b',c+l.length,M1,?_,e4,e5,by have:=hE.next;omega,e3,.inr ⟨by omega,rfl⟩,a4,fun id k h hid=>(e6 id hid (aA.lt_of_get h)).trans h,.inr (by omega),fun h=>absurd h (by omega),fun _ _=>rfl,by have:=aA.lt_of_get e3;omega,by rw[<-e2];rfl⟩
    rw[<-e1,<-e2]
    have h5:=a5 h0
    unfold cU
    simp only [hs,hx,hi,mV,jB,hf,hg,range,a1,a2,a0,a3,a7,h5]
    simp
    rw[Nat.ble_eq_true_of_le (Nat.zero_le _)]
    rfl
end Go.Am
end
