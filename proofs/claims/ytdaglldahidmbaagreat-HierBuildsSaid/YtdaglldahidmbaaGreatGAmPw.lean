/-
  Package hier: each of its laws for every argument; no conditions. The last text states which.
-/
import Derived.Test.YtdaglldahidmbaaGreatGAmTree
set_option linter.unusedVariables false
set_option linter.unusedSimpArgs false
noncomputable section
namespace Go.Am
open Go
variable{P:Program}{GL:List Nat}
class AP {α:Type} (R:α->Value->aB->Prop):Prop where
 uniq:∀{x y:α} {v:Value} {M:aB},R x v M->R y v M->x=y
 ext:∀{x:α} {v:Value} {M M':aB},(∀id b,M.get id=some b->M'.get id=some b)->R x v M->R x v M'
def pI(x:Int)(v:Value)(_:aB):Prop:=v=i64 x
instance:AP pI:=⟨fun h k=>by unfold pI at h k;rw[h] at k;simpa [i64] using k,fun _ h=>h⟩
def pN(x:Nat)(v:Value)(_:aB):Prop:=v=i64 ((x:Nat):Int)
instance:AP pN:=⟨fun h k=>by unfold pN at h k;rw[h] at k;simp [i64] at k;omega,fun _ h=>h⟩
def pB(x:Bool)(v:Value)(_:aB):Prop:=v= .bool x
instance:AP pB:=⟨fun h k=>by unfold pB at h k;rw[h] at k;simpa using k,fun _ h=>h⟩
def pV(v0:Value)(_:Unit)(v:Value)(_:aB):Prop:=v=v0
instance(v0:Value):AP (pV v0):=⟨fun _ _=>rfl,fun _ h=>h⟩
def Gp{α:Type}(g:α->List Value)(w:Nat)(l:List α)(v:Value)(M:aB):Prop:=aG g w M v l
class Va {α:Type} (g:α->List Value):Prop where
 inj:∀x y,g x=g y->x=y
instance{α:Type}(g:α->List Value) [Va g](w:Nat):AP (Gp g w):=⟨fun h k=>aG.unique Va.inj h k,fun h k=>aG.ext k h⟩
abbrev Np(x:Int):List Value:=[i64 x]
instance:Va Np:=⟨fun x y h=>by simpa [Np,i64] using h⟩
instance:Va Rv:=⟨Rw⟩
abbrev aH:=Gp Np 1
abbrev sH:=Gp Rv 1
theorem AP.Ext{α:Type}{R:α->Value->aB->Prop} [AP R]{x:α}{v:Value}{M M':aB}(h:R x v M)(hE:Go.Am.Ext M M'):R x v M':=AP.ext (fun _ _ hg=>hE.old hg) h
theorem AP.log{α:Type}{R:α->Value->aB->Prop} [AP R]{x:α}{v:Value}{M:aB}{lg:List Nat}(h:R x v M):R x v {M with log:=lg}:=AP.ext (M:=M) (M':={M with log:=lg}) (fun _ _ hg=>hg) h
class AA {α:Type} (A:α->List Value->aB->Prop):Prop where
 uniq:∀{x y:α} {l:List Value} {M:aB},A x l M->A y l M->x=y
 ext:∀{x:α} {l:List Value} {M M':aB},(∀id b,M.get id=some b->M'.get id=some b)->A x l M->A x l M'
section
variable{α β γ δ:Type}
def as0(_:Unit)(l:List Value)(_:aB):Prop:=l=[]
def tK(R:α->Value->aB->Prop)(x:α)(l:List Value)(M:aB):Prop:=∃a,l=[a]/\R x a M
def lT(R:α->Value->aB->Prop)(S:β->Value->aB->Prop)(x:α×β)(l:List Value)(M:aB):Prop:=∃a b,l=[a,b]/\R x.1 a M/\S x.2 b M
def Ya(R:α->Value->aB->Prop)(S:β->Value->aB->Prop)(U:γ->Value->aB->Prop)(x:α×β×γ)(l:List Value)(M:aB):Prop:=∃a b c,l=[a,b,c]/\R x.1 a M/\S x.2.1 b M/\U x.2.2 c M
def Vg(R:α->Value->aB->Prop)(S:β->Value->aB->Prop)(U:γ->Value->aB->Prop)(W:δ->Value->aB->Prop)(x:α×β×γ×δ)(l:List Value)(M:aB):Prop:=∃a b c d,l=[a,b,c,d]/\R x.1 a M/\S x.2.1 b M/\U x.2.2.1 c M/\W x.2.2.2 d M
def hJ(A:α->List Value->aB->Prop)(p:α->Prop)(x:α)(l:List Value)(M:aB):Prop:=A x l M/\p x
instance:AA as0:=⟨fun _ _=>rfl,fun _ h=>h⟩
instance(R:α->Value->aB->Prop) [AP R]:AA (tK R):=⟨fun⟨a,h1,h2⟩ ⟨b,k1,k2⟩=>by
 rw[h1] at k1;simp only [List.cons.injEq,and_true] at k1;subst k1;exact AP.uniq h2 k2,fun hE ⟨a,h1,h2⟩=>⟨a,h1,AP.ext hE h2⟩⟩
instance(R:α->Value->aB->Prop)(S:β->Value->aB->Prop) [AP R] [AP S]:AA (lT R S):=⟨fun{x y _ _} ⟨a,b,h1,h2,h3⟩ ⟨a',b',k1,k2,k3⟩=>by
 rw[h1] at k1;simp only [List.cons.injEq,and_true] at k1;obtain⟨rfl,rfl⟩:=k1;have e1:=AP.uniq h2 k2;have e2:=AP.uniq h3 k3;cases x;cases y;simp_all,fun hE ⟨a,b,h1,h2,h3⟩=>⟨a,b,h1,AP.ext hE h2,AP.ext hE h3⟩⟩
instance(R:α->Value->aB->Prop)(S:β->Value->aB->Prop)(U:γ->Value->aB->Prop) [AP R] [AP S] [AP U]:AA (Ya R S U):=⟨fun{x y _ _} ⟨a,b,c,h1,h2,h3,h4⟩ ⟨a',b',c',k1,k2,k3,k4⟩=>by
 rw[h1] at k1;simp only [List.cons.injEq,and_true] at k1;obtain⟨rfl,rfl,rfl⟩:=k1;have e1:=AP.uniq h2 k2;have e2:=AP.uniq h3 k3;have e3:=AP.uniq h4 k4;obtain⟨x1,x2,x3⟩:=x;obtain⟨y1,y2,y3⟩:=y;simp_all,fun hE ⟨a,b,c,h1,h2,h3,h4⟩=>⟨a,b,c,h1,AP.ext hE h2,AP.ext hE h3,AP.ext hE h4⟩⟩
instance(R:α->Value->aB->Prop)(S:β->Value->aB->Prop)(U:γ->Value->aB->Prop)(W:δ->Value->aB->Prop) [AP R] [AP S] [AP U] [AP W]:AA (Vg R S U W):=⟨fun{x y _ _} ⟨a,b,c,d,h1,h2,h3,h4,h5⟩ ⟨a',b',c',d',k1,k2,k3,k4,k5⟩=>by
 rw[h1] at k1;simp only [List.cons.injEq,and_true] at k1;obtain⟨rfl,rfl,rfl,rfl⟩:=k1;have e1:=AP.uniq h2 k2;have e2:=AP.uniq h3 k3;have e3:=AP.uniq h4 k4;have e4:=AP.uniq h5 k5;obtain⟨x1,x2,x3,x4⟩:=x;obtain⟨y1,y2,y3,y4⟩:=y;simp_all,fun hE ⟨a,b,c,d,h1,h2,h3,h4,h5⟩=>⟨a,b,c,d,h1,AP.ext hE h2,AP.ext hE h3,AP.ext hE h4,AP.ext hE h5⟩⟩
instance(A:α->List Value->aB->Prop)(p:α->Prop) [AA A]:AA (hJ A p):=⟨fun h k=>AA.uniq h.1 k.1,fun hE h=>⟨AA.ext hE h.1,h.2⟩⟩
def FC(A:α->List Value->aB->Prop)(R:β->Nat->Value->aB->Prop)(fn:α->β):List Value->aB->Value->aB->Prop:=fun l M v M'=>∃x,A x l M/\R (fn x) M.next v M'
abbrev plain(R:β->Value->aB->Prop):β->Nat->Value->aB->Prop:=fun y _ v M=>R y v M
class AQ (R:β->Nat->Value->aB->Prop):Prop where
 ext:∀{y:β} {n:Nat} {v:Value} {M M':aB},(∀id b,M.get id=some b->M'.get id=some b)->R y n v M->R y n v M'
instance(R:β->Value->aB->Prop) [AP R]:AQ (plain R):=⟨fun hE h=>AP.ext (R:=R) hE h⟩
def eR{β:Type}(R:β->Value->aB->Prop):β->Nat->Value->aB->Prop:=fun y n v M=>R y v (hid n M)
theorem eR.keep{β:Type}{R:β->Value->aB->Prop} [AP R]{y:β}{n n':Nat}{v:Value}{M M':aB}(hn:n'<=n)(hE:∀id b,n<=id->M.get id=some b->M'.get id=some b)(h:R y v (hid n M)):R y v (hid n' M'):=
 AP.ext (fun id b hg=>by rw[xO] at hg⊢;exact⟨Nat.le_trans hn hg.1,hE id b hg.1 hg.2⟩) h
theorem eR.out{β:Type}{R:β->Value->aB->Prop} [AP R]{y:β}{n:Nat}{v:Value}{M:aB}(h:R y v (hid n M)):R y v M:=AP.ext (fun _ _ hg=>Vr hg) h
instance{β:Type}(R:β->Value->aB->Prop) [AP R]:AQ (eR R):=⟨fun hE h=>eR.keep (Nat.le_refl _) (fun id b _ hg=>hE id b hg) h⟩
theorem gJ{n b:Nat}{M:aB}{blk:aR}(hn:n<=b)(hg:M.get b=some blk):(hid n M).get b=some blk:=xO.2 ⟨hn,hg⟩
theorem FC.con{A:α->List Value->aB->Prop}{R:β->Nat->Value->aB->Prop}{fn:α->β}{f:FuncId}{x:α}{l:List Value}{M:aB}(h:A x l M)(hr:∃v M',Ev P GL f l M v M'/\Go.Am.Ext M M'/\R (fn x) M.next v M'):∃v M',lK P GL f (FC A R fn) l M v M':=by obtain⟨v,M',h1,h2,h3⟩:=hr;exact⟨v,M',h1,h2,x,h,h3⟩
theorem aJ{A:α->List Value->aB->Prop}{R:β->Nat->Value->aB->Prop}{fn:α->β} [AA A] [AQ R]{f:FuncId}{x:α}{l:List Value}{M:aB}(hM:aA M)(hK:∀{M:aB},aA M->A x l M->∃v M',lK P GL f (FC A R fn) l M v M')(h:A x l M):
  ∃v M' M1,pick (lK P GL f (FC A R fn)) l {M with log:=[]}=some (v,M')/\kG M.next M'.log=[]/\back M M'=M1/\Go.Am.Ext M M1/\aA M1/\R (fn x) M.next v M1:=by
 have h0:A x l {M with log:=[]}:=AA.ext (M:=M) (M':={M with log:=[]}) (fun _ _ hg=>hg) h
 obtain⟨v,M',M1,k1,k2,k3,k4,k5,⟨y,q1,q2⟩,k7⟩:=Ye hM (hK (aA.log hM) h0)
 refine⟨v,M',M1,k1,k2,k3,k4,k5,?_⟩
 rw[AA.uniq h0 q1]
 exact AQ.ext (M:=M') (fun id b hg=>by rw[k7];exact hg) q2
end
section
variable{b:QC}{nt id:Nat}
theorem bI.for{σ:Type}{n:Nat}{Inv:Nat->σ->aB->Prop}{F:Nat->σ->List (Nat×Value)}{O:σ->List (Nat×Value)}
  (step:∀i s M,i<n->Inv i s M->∃s' T1 M',Rd P GL b nt (Go.Am.fr (F i s)) M .normal T1 M'/\((F (i+1) s').map (·.1)).map T1.get=(F (i+1) s').map (fun p=>some p.2)/\Inv (i+1) s' M')
  (stop:∀s M,Inv n s M->∃T1,Rd P GL b nt (Go.Am.fr (F n s)) M (.exit id) T1 M/\((O s).map (·.1)).map T1.get=(O s).map (fun p=>some p.2)):
  ∀(k i:Nat),i+k=n->∀{s:σ} {M:aB},Inv i s M->∃s' M',bI P GL b nt (Go.Am.fr (F i s)) M (.exit id) (Go.Am.fr (O s')) M'/\Inv n s' M':=by
 intro k
 induction k with
 |zero=>
  intro i hi s M h
  have:i=n:=by omega
  subst this
  obtain⟨T1,h1,h2⟩:=stop s M h
  exact⟨s,M,bI.stop h1 (by simp) (wZ.fr h2),h⟩
 |succ k ih=>
  intro i hi s M h
  obtain⟨s',T1,M1,e1,e2,e3⟩:=step i s M (by omega) h
  obtain⟨s2,M2,f1,f2⟩:=ih (i+1) (by omega) e3
  exact⟨s2,M2,bI.step e1 (wZ.fr e2) f1,f2⟩
theorem bI.forE{σ:Type}{n:Nat}{Inv:Nat->σ->aB->Prop}{F:Nat->σ->List (Nat×Value)}{Post:cT->List (Nat×Value)->aB->Prop}
  (step:∀i s M,i<n->Inv i s M->(∃s' T1 M',Rd P GL b nt (Go.Am.fr (F i s)) M .normal T1 M'/\((F (i+1) s').map (·.1)).map T1.get=(F (i+1) s').map (fun p=>some p.2)/\Inv (i+1) s' M')\/
   (∃e O T1 M',Rd P GL b nt (Go.Am.fr (F i s)) M e T1 M'/\e≠ .normal/\(O.map (·.1)).map T1.get=O.map (fun p=>some p.2)/\Post e O M'))
  (stop:∀s M,Inv n s M->∃e O T1 M',Rd P GL b nt (Go.Am.fr (F n s)) M e T1 M'/\e≠ .normal/\(O.map (·.1)).map T1.get=O.map (fun p=>some p.2)/\Post e O M'):
  ∀(k i:Nat),i+k=n->∀{s:σ} {M:aB},Inv i s M->∃e O M',bI P GL b nt (Go.Am.fr (F i s)) M e (Go.Am.fr O) M'/\Post e O M':=by
 intro k
 induction k with
 |zero=>
  intro i hi s M h
  have:i=n:=by omega
  subst this
  obtain⟨e,O,T1,M',h1,h2,h3,h4⟩:=stop s M h
  exact⟨e,O,M',bI.stop h1 h2 (wZ.fr h3),h4⟩
 |succ k ih=>
  intro i hi s M h
  rcases step i s M (by omega) h with⟨s',T1,M1,e1,e2,e3⟩|⟨e,O,T1,M',h1,h2,h3,h4⟩
  ·obtain⟨e,O,M2,f1,f2⟩:=ih (i+1) (by omega) e3;exact⟨e,O,M2,bI.step e1 (wZ.fr e2) f1,f2⟩
  ·exact⟨e,O,M',bI.stop h1 h2 (wZ.fr h3),h4⟩
end
theorem cN{α:Type}{g:α->List Value}{w:Nat}{M:aB}{a:Option Addr}{n c:Nat}{l:List α}(h:aG g w M (.slice a n c) l)(hn:0<l.length):∃b o,a=some ⟨b,o,none⟩/\n=l.length:=by
 rcases h.at_ with⟨_,_,h0⟩|⟨b,o,c',blk,pre,post,h1,_⟩
 ·omega
 ·simp only [Value.slice.injEq] at h1;exact⟨b,o,h1.1,h1.2.1⟩
theorem aG.len_eq{α:Type}{g:α->List Value}{w:Nat}{M:aB}{a:Option Addr}{n c:Nat}{l:List α}(h:aG g w M (.slice a n c) l):n=l.length:=by obtain⟨a',c',e⟩:=h.form;simp only [Value.slice.injEq] at e;exact e.2.1
theorem iK{α:Type}{g:α->List Value}{w:Nat}{M:aB}{b o c n i:Nat}{l:List α}{r:α}{ty:TypeId}(h:aG g w M (.slice (some ⟨b,o,none⟩) n c) l)(hi:l[i]?=some r)
  (hd:(P.underlying ty).map eC=some true) (hz:(P.info? ty).map (·.size)=some w):bA P ty ⟨b,o+i*w,none⟩ M=some (.agg ⟨g r⟩):=by
 rcases h.at_ with⟨_,_,h0⟩|⟨b',o',c',blk,pre,post,h1,h2,h3,h4,_⟩
 ·rw[List.eq_nil_of_length_eq_zero h0] at hi;simp at hi
 ·simp only [Value.slice.injEq,Option.some.injEq,Addr.mk.injEq] at h1;obtain⟨⟨rfl,rfl,_⟩,_,rfl⟩:=h1;refine lS (a:=⟨b,o+i*w,none⟩) hd hz h2 ?_;show dJ w (blk.cs.drop (o+i*w))=some (g r);rw[h3,<-h4,<-List.drop_drop,List.append_assoc,List.drop_left];exact Lz (fun r hr=>by obtain⟨y,e,rfl⟩:=List.mem_map.1 hr;exact h.wide y e) (by simp [hi]) post
theorem jU{α:Type}{g:α->List Value}{w:Nat}{M:aB}{b o c n i j:Nat}{l:List α}{r:α}{v:Value}{ty:TypeId}(h:aG g w M (.slice (some ⟨b,o,none⟩) n c) l)(hi:l[i]?=some r)(hj:(g r)[j]?=some v)
  (hd:(P.underlying ty).map eC=some false):bA P ty ⟨b,o+i*w+j,none⟩ M=some v:=by
 rcases h.at_ with⟨_,_,h0⟩|⟨b',o',c',blk,pre,post,h1,h2,h3,h4,_⟩
 ·rw[List.eq_nil_of_length_eq_zero h0] at hi;simp at hi
 ·simp only [Value.slice.injEq,Option.some.injEq,Addr.mk.injEq] at h1;obtain⟨⟨rfl,rfl,_⟩,_,rfl⟩:=h1;refine aY (a:=⟨b,o+i*w+j,none⟩) hd h2 ?_;have ht:dJ w (blk.cs.drop (o+i*w))=some (g r):=by
   rw[h3,<-h4,<-List.drop_drop,List.append_assoc,List.drop_left];exact Lz (fun r hr=>by obtain⟨y,e,rfl⟩:=List.mem_map.1 hr;exact h.wide y e) (by simp [hi]) post
  have a0:j<w:=by
   rw[<-h.wide r (xAh hi)];exact(xAg.1 hj).1
  have:=Gv ht a0;rw[List.getElem?_drop] at this;rw[this];exact hj
theorem kM{α:Type}{g:α->List Value}{M:aB}{b o c n i:Nat}{l:List α}{r:α}{v:Value}{ty:TypeId}(h:aG g 1 M (.slice (some ⟨b,o,none⟩) n c) l)(hi:l[i]?=some r)(hj:g r=[v])
  (hd:(P.underlying ty).map eC=some false):bA P ty ⟨b,o+i*1,none⟩ M=some v:=by
 have:=jU (P:=P) (j:=0) (v:=v) h hi (by rw[hj];rfl) hd
 simpa using this
theorem aG.of_blk{α:Type}{g:α->List Value}{w:Nat}{M:aB}{b o c:Nat}{l:List α}{blk:aR}{pre post:List Value}(hg:M.get b=some blk)(a0:blk.cs=pre++(l.map g).flatten++post)(hp:pre.length=o)(hw:∀r∈l,(g r).length=w)(hz:blk.esz=w)(hl:l.length<=9223372036854775807):aG g w M (aC b o l.length c) l:=
 ⟨.inr ⟨b,o,c,blk,pre,post,rfl,hg,a0,hp,fun r hr=>by obtain⟨y,e,rfl⟩:=List.mem_map.1 hr;rw[hz];exact hw y e⟩,hw,hl⟩
theorem aG.of_blk'{α:Type}{g:α->List Value}{w:Nat}{M:aB}{b c n wf:Nat}{ty:TypeId}{q:Bool}{l:List α}{cs:List Value}(hg:M.get b=some ⟨cs,ty,w,wf,q⟩)(hn:l.length=n)(a0:cs=(l.map g).flatten)(hw:∀r∈l,(g r).length=w)(hl:l.length<=9223372036854775807):aG g w M (aC b 0 n c) l:=by subst hn;exact aG.of_blk (pre:=[]) (post:=[]) hg (by simp [a0]) rfl hw rfl hl
theorem aG.nil{α:Type}{g:α->List Value}{w:Nat}{M:aB}(a:Option Addr):aG g w M (.slice a 0 0) ([]:List α):=⟨.inl ⟨a,rfl,rfl⟩,(fun r hr=>by cases hr),(by simp)⟩
theorem vG{α:Type}{f:α->Value}(l:List α):(l.map fun x=>[f x]).flatten=l.map f:=by
 induction l with
 |nil=>rfl
 |cons x l ih=>simp only [List.map_cons,List.flatten_cons,ih];rfl
def mk1(P:Program)(elem:TypeId):Option Value:=
 match P.info? elem with
 |some e=>match e.zero with
  |some z=>bif flat z&&isCell z&&Nat.beq e.size 1&&Nat.ble e.bytes 1024 then some z else none
  |none=>none
 |none=>none
theorem Lm(n:Nat)(z:Value):kQ n [z]=List.replicate n z:=by
 induction n with
 |zero=>rfl
 |succ n ih=>show[z]++kQ n [z]=_;rw[ih];rfl
theorem cI{z:Value}(h:isCell z=true):z.cells= #[z]:=by cases z<;>first|rfl|(simp [isCell] at h)
theorem vJ{t elem:TypeId}{M:aB}{n:Nat}{z:Value}(hM:aA M)(hu:P.underlying t=some (.slice elem))(hz:mk1 P elem=some z)(hn:n<137438953472):
  ∃b M1,M.next=b/\bR P t (i64 ((n:Nat):Int)) (i64 ((n:Nat):Int)) M=some (1,.val (aC b 0 n (n+1)),M1)/\M1.get b=some ⟨List.replicate n z,elem,1,0,true⟩/\Ext M M1/\aA M1:=by
 refine⟨_,M.alloc ⟨List.replicate n z,elem,1,0,true⟩,rfl,?_,mW hM _ rfl,Ext.alloc M _,hM.ext (Ext.alloc M _)⟩
 unfold mk1 at hz
 cases hi:P.info? elem with
 |none=>rw[hi] at hz;cases hz
 |some e=>
  rw[hi] at hz
  simp only at hz
  cases a0:e.zero with
  |none=>rw[a0] at hz;cases hz
  |some z0=>
   rw[a0] at hz
   simp only at hz
   cases hq:(flat z0&&isCell z0&&Nat.beq e.size 1&&Nat.ble e.bytes 1024)<;>rw[hq] at hz
   ·cases hz
   ·cases hz;simp only [Bool.and_eq_true] at hq;obtain⟨⟨⟨q1,q2⟩,q3⟩,q4⟩:=hq;have h1:e.size=1:=xBa q3;have hc:=cI q2;unfold bR;have e1:decide ((0:Int)<=((n:Nat):Int))=true:=xAb (by omega);have e2:decide (((n:Nat):Int)<=((n:Nat):Int))=true:=xAb (Int.le_refl _);have e3:decide (((n:Nat):Int)<2^37)=true:=xAb (by omega);have e4:((n:Nat):Int).toNat=n:=rfl;have e5:decide (((n:Nat):Int)=((n:Nat):Int))=true:=xAb rfl;simp only [hu,hi,a0,q1,hc,List.all_cons,List.all_nil,q2,h1,List.length_cons,List.length_nil,e1,e2,e3,e4,e5,Lm,made,nT];have a1:e.bytes.ble 1024=true:=q4;rw[a1];rfl
theorem Lu{t elem:TypeId}{M:aB}{b o n c lo mx:Nat}{blk:aR}(hu:P.underlying t=some (.slice elem))(he:(P.info? elem).map (·.size)=some 1)(hg:M.get b=some blk)(hz:blk.esz=1)(h1:lo<=mx)(h2:mx<=n):
  vY P t (aC b o n c) (some (i64 ((lo:Nat):Int))) (some (i64 ((lo:Nat):Int))) (some (i64 ((mx:Nat):Int))) M=some (aC b (o+lo) 0 (mx-lo+1)):=by
 cases hi:P.info? elem with
 |none=>rw[hi] at he;cases he
 |some e=>
  rw[hi] at he
  simp only [Option.map_some,Option.some.injEq] at he
  unfold vY
  have d1:decide ((0:Int)<=((mx:Nat):Int))=true:=xAb (by omega)
  have d2:decide (((mx:Nat):Int)<=((n:Nat):Int))=true:=xAb (by omega)
  have d3:decide ((0:Int)<=((lo:Nat):Int))=true:=xAb (by omega)
  have d4:decide (((lo:Nat):Int)<=((mx:Nat):Int))=true:=xAb (by omega)
  have d5:decide (((lo:Nat):Int)<=((lo:Nat):Int))=true:=xAb (Int.le_refl _)
  simp only [hu,hi,hg,mU,d1,d2,d3,d4,d5,Bool.and_self,cond_true,Int.toNat_natCast,hz,he,Nat.beq_refl,Option.isNone_none,tF,Nat.mul_one,Nat.sub_self,Option.isSome_some,Option.isNone_some,Bool.and_false,cond_false]
theorem Ek{n k:Nat}{l:List Value}(h:k+n<=l.length):dJ n (l.drop k)=some ((l.drop k).take n):=by
 have hl:((l.drop k).take n).length=n:=by simp;omega
 have h2:=rQ ((l.drop k).take n) ((l.drop k).drop n);rw[hl,List.take_append_drop] at h2;exact h2
theorem Aa{sT xT elem:TypeId}{M M0:aB}{a o bx ox cx w y len cap:Nat}{blk b0:aR}{new old:List Value}(hE:Ext M0 M)(ha:M0.next<=a)(hM:aA M)(hs:P.underlying sT=some (.slice elem))(hx:P.underlying xT=some (.slice elem))(he:elemOf P elem=some (w,y,true))(hw:0<w)(hy:y<=1024)(hlen:len<1073741824)
  (hg:M.get bx=some blk) (ht:dJ w (blk.cs.drop ox)=some new) (hc:new.all isCell=true) (hl:new.length=w) (h0:M.get a=some b0) (a1:dJ (len*w) (b0.cs.drop o)=some old) (a2:b0.elem=elem) (a3:b0.esz=w) (a4:b0.wf<=o+len*w) (hcap:len+1<cap) (a0:o+(len+1)*w<=b0.cs.length):
  ∃M1,dM P [sT,xT] (.slice (some ⟨a,o,none⟩) len cap) (.slice (some ⟨bx,ox,none⟩) 1 cx) M=some (2,.val (.slice (some ⟨a,o,none⟩) (len+1) cap),M1)/\M1.get a=some {b0 with cs:=splice b0.cs (o+len*w) new}/\(∀id,id≠a->M1.get id=M.get id)/\Ext M0 M1/\aA M1/\M1.log=a::M.log:=by
 refine⟨M.put a (some {b0 with cs:=splice b0.cs (o+len*w) new}),?_,?_,fun id hid=>uT _ hid,hE.put _ ha,hM,rfl⟩
 ·unfold elemOf at he;cases hi:P.info? elem with
  |none=>rw[hi] at he;cases he
  |some e=>
   rw[hi] at he
   simp only [Option.map_some,Option.some.injEq] at he
   have hr:=rM (n:=len+1) he hw hy (by omega)
   simp only [Prod.mk.injEq] at he
   obtain⟨rfl,rfl,_⟩:=he
   unfold dM
   have h1:Nat.beq cap len=false:=by
    cases hb:Nat.beq cap len
    ·rfl
    ·exact absurd (xBa hb) (by omega)
   have h2:Nat.ble cap (len+1)=false:=by
    cases hb:Nat.ble cap (len+1)
    ·rfl
    ·exact absurd (xAd hb) (by omega)
   have h3:Nat.ble b0.wf (o+len*e.size)=true:=Nat.ble_eq_true_of_le a4
   have h4:Nat.ble (o+(len+1)*e.size) b0.cs.length=true:=Nat.ble_eq_true_of_le a0
   have h5:Nat.beq 1 0=false:=rfl
   simp only [hs,hx,hi,nX,kL,iS,hg,range,Nat.one_mul,ht,hr,hc,hl,h0,a1,a3,a2,h1,h2,h3,h4,h5,Nat.beq_refl,Option.isNone_none,Bool.not_true,Bool.not_false,Bool.or_false,Bool.and_true,cond_true,cond_false]
 ·obtain⟨k1,k2,_,k4⟩:=cB.1 h0;rw[Lg _ k1 k2];have h5:dS {b0 with cs:=splice b0.cs (o+len*w) new}=false:=k4;simp [Oi,h5]
theorem Ab{sT xT elem:TypeId}{M:aB}{α:Type}{g:α->List Value}{l:List α}{w y n c:Nat}{a:Option Addr}(hM:aA M)(hs:P.underlying sT=some (.slice elem))(hx:P.underlying xT=some (.slice elem))(he:elemOf P elem=some (w,y,true))(hw:0<w)(hy:y<=1024)(a3:Nat.beq w nY=false)
  (hr:aG g w M (.slice a n c) l) (hn:l.length<=1073741824) (hc:∀r∈l,(g r).all isCell=true):
  ∃v M1,dM P [sT,xT] dP (.slice a n c) M=some (1,.val v,M1)/\aG g w M1 v l/\Ext M M1/\aA M1/\((v=dP/\l=[])\/∃b,v=aC b 0 l.length l.length/\M.next<=b/\M1.get b=some ⟨(l.map g).flatten,elem,w,0,true⟩):=by
 unfold elemOf at he
 cases hi:P.info? elem with
 |none=>rw[hi] at he;cases he
 |some e=>
  rw[hi] at he
  simp only [Option.map_some,Option.some.injEq] at he
  have a2:=rM (n:=l.length) he hw hy (by omega)
  simp only [Prod.mk.injEq] at he
  obtain⟨rfl,rfl,_⟩:=he
  have a4:=hr.len_eq
  subst a4
  by_cases h0:l.length=0
  ·have hl:l=[]:=List.eq_nil_of_length_eq_zero h0;subst hl;refine⟨dP,M,?_,aG.nil none,Ext.refl M,hM,.inl ⟨rfl,rfl⟩⟩;have hf:iS M e.size 0 (.slice a 0 c)=some []:=by
    cases a with
    |none=>rfl
    |some a=>
     simp only [iS]
     cases M.get a.block with
     |none=>rfl
     |some b=>simp [range,dJ]
   unfold dM;simp only [List.length_nil] at a2 hf⊢;simp only [hs,hx,hi,nX,kL,hf,a2];simp
  ·rcases hr.at_ with⟨_,_,hh⟩|⟨b',o',c',blk,pre,post,h1,h2,h3,h4,_⟩
   ·omega
   ·simp only [Value.slice.injEq] at h1;obtain⟨rfl,_,rfl⟩:=h1;have a5:∀r∈l.map g,r.length=e.size:=fun r hr'=>by obtain⟨y,q,rfl⟩:=List.mem_map.1 hr';exact hr.wide y q
    have a0:(l.map g).flatten.length=l.length*e.size:=by rw[yA a5,List.length_map]
    have hf:dJ (l.length*e.size) (blk.cs.drop o')=some (l.map g).flatten:=by
     rw[h3,<-h4,List.append_assoc,List.drop_left,<-a0];exact rQ _ _
    have a1:(l.map g).flatten.all isCell=true:=by
     rw[List.all_eq_true];intro x hx;obtain⟨r,k1,k2⟩:=List.mem_flatten.1 hx;obtain⟨y,q,rfl⟩:=List.mem_map.1 k1;exact List.all_eq_true.1 (hc y q) x k2
    refine⟨_,_,?_,?_,Ext.alloc M ⟨(l.map g).flatten,elem,e.size,0,true⟩,hM.ext (Ext.alloc M _),.inr ⟨M.next,rfl,Nat.le_refl _,mW hM _ (by unfold dS;rw[a3];rfl)⟩⟩
    ·unfold dM;have h5:l.length.beq 0=false:=by
      cases hb:l.length.beq 0
      ·rfl
      ·exact absurd (xBa hb) h0
     simp only [hs,hx,hi,nX,kL,iS,h2,range,hf,a2,a1,a0];simp [h5,made,nT]
    ·exact aG.of_blk (pre:=[]) (post:=[]) (mW hM _ (by unfold dS;rw[a3];rfl)) (by simp) rfl hr.wide rfl hr.len
def sR(xs:List Value)(i:Nat)(z:Value):List Value:=xs.take i++List.replicate (xs.length-i) z
theorem wH(xs:List Value)(z:Value):sR xs 0 z=List.replicate xs.length z:=by simp [sR]
theorem yY(xs:List Value)(z:Value):sR xs xs.length z=xs:=by simp [sR]
theorem uN(xs:List Value){i:Nat}(z:Value)(h:i<=xs.length):(sR xs i z).length=xs.length:=by simp [sR];omega
theorem wG{xs:List Value}{i:Nat}{z x:Value}(h:xs[i]?=some x):splice (sR xs i z) i [x]=sR xs (i+1) z:=by obtain⟨hi,rfl⟩:=xAg.1 h;rw[jF _ _ _ (by rw[uN _ _ (by omega)];exact hi)];unfold sR;rw[List.set_append_right _ _ (by simp;omega),List.length_take,Nat.min_eq_left (by omega),Nat.sub_self,show xs.length-i=(xs.length-(i+1))+1 by omega,List.replicate_succ,List.set_cons_zero,List.take_succ_eq_append_getElem hi,List.append_assoc];rfl
def Bh(x y:Int):Int:=IntKind.wrap .i64 (((BitVec.ofInt 64 x|||BitVec.ofInt 64 y).toNat:Nat):Int)
def gS(x y:Int):Int:=IntKind.wrap .i64 (((BitVec.ofInt 64 x&&&BitVec.ofInt 64 y).toNat:Nat):Int)
theorem Gm(n:Nat):(BitVec.ofInt 64 ((n:Nat):Int)).toNat=n%18446744073709551616:=by simp
theorem Wh{x y:Nat}(hx:x<1099511627776)(hy:y<1099511627776):Bh ((x:Nat):Int) ((y:Nat):Int)=((x|||y:Nat):Int):=by unfold Bh;rw[BitVec.toNat_or,Gm,Gm,Nat.mod_eq_of_lt (by omega),Nat.mod_eq_of_lt (by omega)];have:x|||y<2^40:=Nat.or_lt_two_pow (by omega) (by omega);exact fU (by omega) (by omega)
theorem Tw{α:Type}{g:α->List Value}{w n0:Nat}{M M1:aB}{v:Value}{l:List α}{elem:TypeId}(hn:n0<=M.next)(hw:∀r∈l,(g r).length=w)(hl:l.length<=9223372036854775807)(h:(v=dP/\l=[])\/∃b,v=aC b 0 l.length l.length/\M.next<=b/\M1.get b=some ⟨(l.map g).flatten,elem,w,0,true⟩):Gp g w l v (hid n0 M1):=by
 rcases h with⟨rfl,rfl⟩|⟨b,rfl,h2,h3⟩
 ·exact aG.nil none
 ·exact aG.of_blk' (gJ (by omega) h3) rfl rfl hw hl
section
variable{β:Type}{R:β->Value->aB->Prop} [AP R]{y:β}{v:Value}{M M':aB}{H H':List (Nat×Nat)}
theorem kK{n:Nat}(h:R y v (hid n M)):R y v (bS [(0,n)] M):=AP.ext (fun id b hg=>by
 rw[xO] at hg;rw[bM];exact⟨by simp [bD,Nat.blt_eq];omega,hg.2⟩) h
theorem jR(h:R y v (bS H M))(hE:Go.Am.Ext M M'):R y v (bS H M'):=AP.ext (fun _ _ hg=>Sz hE hg) h
theorem kZ{x:Nat}(h:R y v (bS H M))(hx:M.next=x)(hE:Go.Am.Ext M M'):R y v (bS ((x,x+1)::H) M'):=AP.ext (fun _ _ hg=>Ta hx hE hg) h
theorem fT{x:Nat}(h:R y v (bS H M))(hk:∀id,id≠x->id<M.next->M'.get id=M.get id)(hx:∀id,¬bD H id=true->id≠x):R y v (bS H M'):=AP.ext (fun _ _ hg=>Qe hk hx hg) h
theorem Tc(h:R y v (bS H M))(hk:∀id b,¬bD H id=true->M.get id=some b->M'.get id=some b):R y v (bS H M'):=AP.ext (fun id b hg=>by rw[bM] at hg⊢;exact⟨hg.1,hk id b hg.1 hg.2⟩) h
theorem cZ(h:R y v (bS H M))(hk:∀id b,M.get id=some b->M'.get id=some b):R y v (bS H M'):=Tc h fun id b _=>hk id b
theorem dI(h:R y v (bS H M)):R y v M:=AP.ext (fun _ _ hg=>Tb hg) h
theorem Gd{n:Nat}(h:R y v (bS H M))(hn:∀id,¬bD H id=true->n<=id):R y v (hid n M):=AP.ext (fun id b hg=>by rw[bM] at hg;rw[xO];exact⟨hn id hg.1,hg.2⟩) h
end
theorem gL{id:Nat}:(¬bD [] id=true)↔True:=by simp [bD]
theorem bJ{a b id:Nat}{l:List (Nat×Nat)}:(¬bD ((a,b)::l) id=true)↔(¬(a<=id/\id<b)/\¬bD l id=true):=by simp only [bD,Bool.or_eq_true,Bool.and_eq_true,Nat.ble_eq,Nat.blt_eq,not_or]
end Go.Am
end

noncomputable section
namespace Go.Am
open Go
structure E4 where
 f:Int
 t:Int
 m:Int
 c:Int
abbrev cJ(e:E4):List Value:=[i64 e.f,i64 e.t,i64 e.m,i64 e.c]
instance:Va cJ:=⟨fun x y h=>by cases x;cases y;simpa [cJ,i64] using h⟩
abbrev Bi:=aG cJ 4
abbrev aQ:=Gp cJ 4
def Qw(x:Int×List E4)(v:Value)(M:aB):Prop:=∃L,v= .agg ⟨[i64 x.1,L]⟩/\aQ x.2 L M
instance:AP Qw:=⟨fun{x y _ _} ⟨L,h1,h2⟩ ⟨K,k1,k2⟩=>by
 rw[h1] at k1;simp only [Value.agg.injEq,Array.mk.injEq,List.cons.injEq,and_true] at k1;obtain⟨e1,rfl⟩:=k1;have e2:=AP.uniq (R:=aQ) h2 k2;obtain⟨a,b⟩:=x;obtain⟨c,d⟩:=y;have:a=c:=by simpa [i64] using e1
 simp_all,fun hE ⟨L,h1,h2⟩=>⟨L,h1,AP.ext (R:=aQ) hE h2⟩⟩
def jA(x:Nat×List E4)(v:Value)(M:aB):Prop:=Qw (((x.1:Nat):Int),x.2) v M
instance:AP jA:=⟨fun{x y _ _} h k=>by
 have:=AP.uniq (R:=Qw) h k;simp only [Prod.mk.injEq] at this;obtain⟨a,b⟩:=x;obtain⟨c,d⟩:=y;have h1:a=c:=by have:=this.1;omega
 have h2:b=d:=this.2;rw[h1,h2],fun hE h=>AP.ext (R:=Qw) hE h⟩
def pE(e:E4)(v:Value)(_:aB):Prop:=v= .agg ⟨cJ e⟩
instance:AP pE:=⟨fun{x y _ _} h k=>by unfold pE at h k;rw[h] at k;simp only [Value.agg.injEq,Array.mk.injEq] at k;exact Va.inj _ _ k,fun _ h=>h⟩
inductive uX where|to|fr|set
def zN(m:Int):Int:=((2^m.toNat:Nat):Int)
def dW:uX->E4->Int
 | .to,e=>e.t
 | .fr,e=>e.f
 | .set,e=>zN e.m
def Eu(e:E4):Prop:=0<=e.m/\e.m<5
def gH(x n:Int):Bool:=decide (x>=(0:Int))&&decide (x<n)
def iW(n:Int)(e:E4):Bool:=gH e.f n&&gH e.t n&&gH e.m 5&&decide (e.c>=(0:Int))&&decide (e.c<=(2147483647:Int))
def iB(n:Int):Bool:=decide (n>=(1:Int))&&decide (n<=(60:Int))
def fF(n:Int)(l:List E4):Bool:= !(!(iB n)||decide (((l.length:Nat):Int)>(400:Int)))&&l.all (iW n)
end Go.Am
end
