/-
  Package hier: each of its laws for every argument; no conditions. The last text states which.
-/
import Derived.Test.YtdaglldahidmbaaGAmBk
import Derived.Test.YtdaglldahidmbaaGAmPw
import Derived.Test.YtdaglldahidmbaaGAmTree
set_option linter.unusedVariables false
set_option linter.unusedSimpArgs false
noncomputable section
namespace Go.Am
open Go
def aF(k d:Int):Int:=IntKind.wrap .i64 (k.tdiv d)
def nW(N md k:Int):E4:=
 ⟨aC k N,aC (aF k 13) N,
  bif aC md 3==(0:Int) then aC (IntKind.wrap .i64 (aC k N+aC (aF k 13) N)) 2 else bif aC md 3==(1:Int) then aC (IntKind.wrap .i64 (aC (aF k 170) 5*aC k N)) 3 else aC (aF k 170) 5,
  bif aC k 31==(0:Int) then IntKind.wrap .i64 ((2147483647:Int)-aC (aF k 31) 3) else aC (aF k 900) 9⟩
def eB(size:Int):Nat:=1+(aC size 12).toNat
def pM(size:Int)(ns:List Int)(md:Int):List E4:=(ns.take 40).map (nW ((eB size:Nat):Int) md)
theorem nL(size:Int):1<=eB size/\eB size<=12:=by
 have:=iM (x:=size) (n:=12) (by decide)
 unfold eB;omega
theorem Wp(size:Int):IntKind.wrap .i64 ((1:Int)+aC size 12)=((eB size:Nat):Int):=by
 have:=iM (x:=size) (n:=12) (by decide)
 have e:((eB size:Nat):Int)=1+aC size 12:=by unfold eB;omega
 rw[e]
 exact fD (by omega) (by omega)
theorem Nk{N:Int}(hN:1<=N)(md k:Int):gV N (nW N md k)=true:=by
 have h1:=iM (x:=k) (n:=N) (by omega)
 have h2:=iM (x:=aF k 13) (n:=N) (by omega)
 have h3:=iM (x:=aF k 170) (n:=5) (by decide)
 have h4:=iM (x:=aF k 900) (n:=9) (by decide)
 have h5:=iM (x:=aF k 31) (n:=3) (by decide)
 have h6:=iM (x:=IntKind.wrap .i64 (aC k N+aC (aF k 13) N)) (n:=2) (by decide)
 have h7:=iM (x:=IntKind.wrap .i64 (aC (aF k 170) 5*aC k N)) (n:=3) (by decide)
 have h8:IntKind.wrap .i64 ((2147483647:Int)-aC (aF k 31) 3)=2147483647-aC (aF k 31) 3:=fD (by omega) (by omega)
 unfold gV nW dM
 simp only [Bool.and_eq_true,decide_eq_true_eq]
 refine⟨⟨⟨⟨⟨h1.1,h1.2⟩,h2.1,h2.2⟩,?_⟩,?_⟩,?_⟩
 ·cases aC md 3==(0:Int)<;>cases aC md 3==(1:Int)<;>simp only [cond_true,cond_false]<;>omega
 ·cases aC k 31==(0:Int)<;>simp only [cond_true,cond_false]<;>omega
 ·cases aC k 31==(0:Int)<;>simp only [cond_true,cond_false]<;>omega
theorem pJ(size:Int)(ns:List Int)(md:Int):eP ((eB size:Nat):Int) (pM size ns md)=true:=by
 have hN:=nL size
 unfold eP fS
 simp only [Bool.and_eq_true,Bool.not_eq_true',Bool.or_eq_false_iff,Bool.not_eq_false',decide_eq_true_eq,decide_eq_false_iff_not,List.all_eq_true]
 refine⟨⟨⟨by omega,by omega⟩,?_⟩,fun e he=> ?_⟩
 ·simp [pM];omega
 ·obtain⟨k,_,rfl⟩:=List.mem_map.1 he
  exact Nk (by omega) md k
end Go.Am
end

noncomputable section
namespace Go.Am
open Go
variable{P:Program}
def cU(el:TypeId)(w:Nat)(M0:aA)(bad:List Nat)(n:Nat)(cs:List Value)(S:Value)(M:aA):Prop:=(S=cI/\n=0/\cs= [])\/ ∃b,S=aD b 0 n n/\0<n/\cs.length=n*w/\M0.next<=b/\b∉bad/\M.get b=some ⟨cs,el,w,0,true⟩
section
variable{el:TypeId}{w n:Nat}{M0 M M':aA}{bad:List Nat}{cs:List Value}{S:Value}
theorem cU.isCell(h:cU el w M0 bad n cs S M):Go.Am.isCell S=true:=by rcases h with⟨rfl,_⟩|⟨_,rfl,_⟩<;>rfl
theorem cU.ext(h:cU el w M0 bad n cs S M)(hE:Ext M M'):cU el w M0 bad n cs S M':=by
 rcases h with h|⟨b,h1,h2,h3,h4,h5,h6⟩
 ·exact .inl h
 ·exact .inr ⟨b,h1,h2,h3,h4,h5,hE.old h6⟩
theorem cU.same(h:cU el w M0 bad n cs S M)(hE: ∀id b,M.get id=some b->M'.get id=some b):cU el w M0 bad n cs S M':=by
 rcases h with h|⟨b,h1,h2,h3,h4,h5,h6⟩
 ·exact .inl h
 ·exact .inr ⟨b,h1,h2,h3,h4,h5,hE _ _ h6⟩
theorem cU.new{x:Nat}(h:cU el w M0 bad n cs S M)(hx:M.next=x)(hE:Ext M M'):cU el w M0 (x::bad) n cs S M':=by
 rcases h with h|⟨b,h1,h2,h3,h4,h5,h6⟩
 ·exact .inl h
 ·refine .inr ⟨b,h1,h2,h3,h4,?_,hE.old h6⟩
  have:=aA.lt_of_get h6
  simp only [List.mem_cons,not_or]
  exact⟨by omega,h5⟩
theorem cU.keep{x:Nat}(h:cU el w M0 bad n cs S M)(hx:x∈bad)(hk: ∀id,id≠x->id<M.next->M'.get id=M.get id):cU el w M0 bad n cs S M':=by
 rcases h with h|⟨b,h1,h2,h3,h4,h5,h6⟩
 ·exact .inl h
 ·exact .inr ⟨b,h1,h2,h3,h4,h5,(hk b (fun e=>h5 (e▸hx)) (aA.lt_of_get h6)).trans h6⟩
theorem cU.less{bad':List Nat}(h:cU el w M0 bad n cs S M)(hb: ∀x∈bad',x∈bad):cU el w M0 bad' n cs S M:=by
 rcases h with h|⟨b,h1,h2,h3,h4,h5,h6⟩
 ·exact .inl h
 ·exact .inr ⟨b,h1,h2,h3,h4,fun e=>h5 (hb b e),h6⟩
theorem iE{sT xT y bx o c:Nat}{blk:aW}{new:List Value}(h:cU el w M0 bad n cs S M)(hE:Ext M0 M)(hM:aB M)(hb: ∀x∈bad,x<M.next)(hkt:Bm P el=false)(hs:P.underlying sT=some (.slice el))(hx:P.underlying xT=some (.slice el))(he:elemOf P el=some (w,y,true))(hw:0<w)(hy:y<=1024)(h97:Nat.beq w oB=false)(hn:n<1073741824)
  (hg:M.get bx=some blk) (ht:dA w (blk.cs.drop o)=some new) (hc:new.all Go.Am.isCell=true) (hl:new.length=w):
  ∃t S' M1,dJ P [sT,xT] S (aD bx o 1 c) M=some ((bif t then 1 else 2),.val S',M1)/\Ext M0 M1/\aB M1/\cU el w M0 bad (n+1) (cs++new) S' M1/\(∀id b,M.get id=some b->id∈bad->M1.get id=some b)/\ ∀id b,M.get id=some b->(∀m o c,S≠aD id o m c)->M1.get id=some b:=by
 rcases h with⟨rfl,rfl,rfl⟩|⟨b,rfl,h2,h3,h4,h5,h6⟩
 ·have hm:dD ⟨new,el,w,0,true⟩=false:=by unfold dD;rw[h97];rfl
  obtain⟨b',M1,e1,e2,e3,e4,e5⟩:=bG hM ⟨new,el,w,0,true⟩ hm
  refine⟨true,aD b' 0 1 1,M1,?_,hE.trans e4,e5,.inr ⟨b',rfl,Nat.one_pos,by simp [hl],by have:=hE.next;omega,fun hh=>by have:=hb _ hh;omega,by simpa using e3⟩,fun id k g _=>e4.old g,fun id k g _=>e4.old g⟩
  rw[<-e1,<-e2]
  exact append_nil hs hx he hw hy hg ht hc hl
 ·have hm:dD ⟨cs++new,el,w,0,true⟩=false:=by unfold dD;rw[h97];rfl
  obtain⟨b',M1,e1,e2,e3,e4,e5,e6⟩:=rZ hE h4 hM ⟨cs++new,el,w,0,true⟩ hm
  have hlt:=aA.lt_of_get h6
  refine⟨false,aD b' 0 (n+1) (n+1),M1,?_,e4,e5,.inr ⟨b',rfl,Nat.succ_pos _,by rw[List.length_append,h3,hl,Nat.succ_mul],by have:=hE.next;omega,fun hh=>by have:=hb _ hh;omega,e3⟩,fun id k g hid=>(e6 id (fun e=>h5 (e▸hid)) (aA.lt_of_get g)).trans g,fun id k g hid=>(e6 id (fun e=>hid n 0 n (by rw[e])) (aA.lt_of_get g)).trans g⟩
  rw[<-e1,<-e2]
  exact jJ hkt hs hx he hw hy hn hg ht hc hl h6 h3 rfl rfl rfl rfl
end
end Go.Am
end

noncomputable section
namespace Go.Am
open Go Go.ChangeShapes Go.WideShapes
variable{P:Program}{w:World}{H:Type}{enc:TypeId×Value->H}{S E:TypeId}{d:Nat}
theorem Lu{α:Type}{g:α->List Value}{held:Bool}(hT:Fj g enc P S E d){r:Reach}{base n:Nat}{v:Value}{dt:DataW H}{p:List MemPlace}(hval:Value.okWide P w r base S v)(h:DataW.Trod enc P w 0 (fun _=>true) held S v dt p):
  ∃m bs φ0 l a c,De P w n m bs φ0/\(∀φ:dC,φ0.le φ->bA φ (.slice a l.length c) v)/\ ∀M,Has M bs->aK g d M (.slice a l.length c) l:=by
 obtain⟨fuel,h⟩:=h
 obtain⟨u,hu,m,bs,φ0,l,a,c,h1,h2,h3⟩:=Nm hT fuel n _ _ h
 refine⟨m,bs,φ0,l,a,c,h1,fun φ hφ=> ?_,h3⟩
 have hv:v=u:=by
  unfold Value.okWide at hval
  rw[hT.us] at hval
  simp only at hval
  cases v with
  |agg cs=>
   exfalso
   unfold Cell.okWide at hval
   rw[hT.us] at hval
   simp only at hval
   unfold Cell.ok at hval
   rw[hT.us] at hval
   exact hval
  |_=>simp [Value.cells] at hu;exact hu
 rw[hv]
 exact h2 φ hφ
theorem Vk{I:TypeId}(hs:P.underlying S=some (.slice I))(hi:P.underlying I=some (.int .i64))(hc:P.cellsOf I=1):Fj Lg enc P S I 1 where
 flat:=fun _=>rfl
 us:=hs
 cells:=hc
 pos:=by decide
 row:=fun{w base nf held cs y} h=>by
  obtain⟨z,h1,_⟩:=DataW.trod_int hi h
  exact⟨z,rfl,h1⟩
theorem Oh{P:Program}{ts:List TypeId}(h:ts.all (fun t=>P.readableRec t&&Nat.blt t P.types.size)=true): ∀t∈ts,P.readableRec t=true/\t<P.types.size:=by
 intro t ht
 have:=List.all_eq_true.1 h t ht
 simp only [Bool.and_eq_true] at this
 exact⟨this.1,Nat.le_of_ble_eq_true this.2⟩
end Go.Am
end
