/-
  Package hier: each of its laws for every argument; no conditions. The last text states which.
-/
import Derived.Test.YtdaglldahidmbaaGreatGAmLex
namespace Go.Am
open Go
set_option linter.unusedSimpArgs false
variable{P:Program}
theorem eU{α β:Type}(m:Sem α)(f:α->Sem β):cF P (m>>=f)=(cF P m).bind fun a=>cF P (f a):=by
 show cF P (Sem.bind m f)=_;induction m with
 |pure a=>rfl
 |program k ih=>show cF P (Sem.bind (k P) f)=_;rw[ih];rfl
 |mark m k ih=>show cF P (Sem.bind k f)=_;rw[ih];rfl
 |_=>rfl
theorem Lf{α β:Type}(f:α->β)(m:Sem α):cF P (f<$>m)=(cF P m).map f:=by
 have:f<$>m=m>>=fun a=>pure (f a):=rfl
 rw[this,eU];cases cF P m<;>rfl
theorem kU{α:Type}(a:α):cF P (pure a:Sem α)=some a:=rfl
theorem qK{e:TypeId}{d:TypeDesc}(he:P.underlying e=some d):cF P (underlying e)=some d:=by simp [underlying,program,bind,Sem.bind,cF,he,pure]
theorem Sv(d:Nat){e:TypeId}{k k':IntKind}(a b:Int)(he:P.underlying e=some (.int k')):cF P (Op.equalIn (d+1) e (.int k a) (.int k b))=some (a==b):=by unfold Op.equalIn;rw[eU,qK he];simp [cF,pure]
theorem eF{e:TypeId}{k:IntKind}{cs:Array Value}{off:Nat}{v:Value}(he:P.underlying e=some (.int k))(hv:cs[off]?=some v):cF P (part e cs off)=some v:=by
 have h1:cF P (isAgg e)=some false:=by
  unfold isAgg;rw[eU,qK he];rfl
 unfold part;rw[eU,h1];simp [hv,kU]
theorem Iq{e:TypeId}{i:TypeInfo}(hi:P.info? e=some i):cF P (sizeOf e)=some i.size:=by simp [sizeOf,typeInfo,program,bind,Sem.bind,cF,hi,pure]
def eq5(a b c d e a' b' c' d' e':Int):Bool:=(a==a')&&((b==b')&&((c==c')&&((d==d')&&(e==e'))))
theorem Vn(n:Nat){t u:TypeId}{k0:IntKind}{i:TypeInfo}(ht:P.underlying t=some (.array 5 u))(hu:P.underlying u=some (.int k0))(hi:P.info? u=some i)(h1:i.size=1)(a b c d e a' b' c' d' e':Int):
  cF P (Op.equalIn (n+1+1) t (.agg ⟨[.int .i64 a,.int .i64 b,.int .i64 c,.int .i64 d,.int .i64 e]⟩) (.agg ⟨[.int .i64 a',.int .i64 b',.int .i64 c',.int .i64 d',.int .i64 e']⟩))=some (eq5 a b c d e a' b' c' d' e'):=by
 rw[Op.equalIn.eq_def]
 simp only [eU,qK ht,Option.bind_some,Iq hi,h1]
 simp only [Std.Legacy.Range.forIn_eq_forIn_range',Std.Legacy.Range.size,Nat.sub_zero,Nat.add_one_sub_one,Nat.div_one,show List.range' 0 5=[0,1,2,3,4] from rfl,List.forIn_cons,eU]
 have p0:=eF (P:=P) (cs:=⟨[.int .i64 a,.int .i64 b,.int .i64 c,.int .i64 d,.int .i64 e]⟩) (off:=0*1) hu rfl
 have p1:=eF (P:=P) (cs:=⟨[.int .i64 a,.int .i64 b,.int .i64 c,.int .i64 d,.int .i64 e]⟩) (off:=1*1) hu rfl
 have p2:=eF (P:=P) (cs:=⟨[.int .i64 a,.int .i64 b,.int .i64 c,.int .i64 d,.int .i64 e]⟩) (off:=2*1) hu rfl
 have p3:=eF (P:=P) (cs:=⟨[.int .i64 a,.int .i64 b,.int .i64 c,.int .i64 d,.int .i64 e]⟩) (off:=3*1) hu rfl
 have p4:=eF (P:=P) (cs:=⟨[.int .i64 a,.int .i64 b,.int .i64 c,.int .i64 d,.int .i64 e]⟩) (off:=4*1) hu rfl
 have q0:=eF (P:=P) (cs:=⟨[.int .i64 a',.int .i64 b',.int .i64 c',.int .i64 d',.int .i64 e']⟩) (off:=0*1) hu rfl
 have q1:=eF (P:=P) (cs:=⟨[.int .i64 a',.int .i64 b',.int .i64 c',.int .i64 d',.int .i64 e']⟩) (off:=1*1) hu rfl
 have q2:=eF (P:=P) (cs:=⟨[.int .i64 a',.int .i64 b',.int .i64 c',.int .i64 d',.int .i64 e']⟩) (off:=2*1) hu rfl
 have q3:=eF (P:=P) (cs:=⟨[.int .i64 a',.int .i64 b',.int .i64 c',.int .i64 d',.int .i64 e']⟩) (off:=3*1) hu rfl
 have q4:=eF (P:=P) (cs:=⟨[.int .i64 a',.int .i64 b',.int .i64 c',.int .i64 d',.int .i64 e']⟩) (off:=4*1) hu rfl
 simp only [p0,p1,p2,p3,p4,q0,q1,q2,q3,q4,Option.bind_some,Sv n _ _ hu]
 cases h1:a==a'<;>cases h2:b==b'<;>cases h3:c==c'<;>cases h4:d==d'<;>cases h5:e==e'<;>simp [eq5,h1,h2,h3,h4,h5,kU,eU,p0,p1,p2,p3,p4,q0,q1,q2,q3,q4,Sv n _ _ hu]
def Oy:Value->Option (Int×Int×Int×Int×Int)
 | .agg ⟨[.int .i64 a,.int .i64 b,.int .i64 c,.int .i64 d,.int .i64 e]⟩=>some (a,b,c,d,e)
 |_=>none
theorem Km{v:Value}{p:Int×Int×Int×Int×Int}(h:Oy v=some p):v= .agg ⟨[.int .i64 p.1,.int .i64 p.2.1,.int .i64 p.2.2.1,.int .i64 p.2.2.2.1,.int .i64 p.2.2.2.2]⟩:=by
 unfold Oy at h;split at h
 ·cases h;rfl
 ·cases h
def Hx(P:Program)(u:TypeId):Bool:=match P.underlying u,P.info? u with
 |some (.int _),some i=>Nat.beq i.size 1
 |_,_=>false
def Mu(P:Program)(t:TypeId)(x y:Value):Option Bool:=match Oy x,Oy y,P.underlying t with
 |some p,some q,some (.array n u)=>bif Nat.beq n 5&&Hx P u&& !(P.eqGuardType P.depth t) then some (eq5 p.1 p.2.1 p.2.2.1 p.2.2.2.1 p.2.2.2.2 q.1 q.2.1 q.2.2.1 q.2.2.2.1 q.2.2.2.2) else none
 |_,_,_=>none
theorem Ju{t:TypeId}{x y:Value}{r:Bool}(h:Mu P t x y=some r):(∃xs ys,x= .agg xs/\y= .agg ys)/\(flat x&&flat y)=true/\P.eqGuardType P.depth t=false/\∀n,cF P (Op.equalIn (n+1+1) t x y)=some r:=by
 unfold Mu at h;split at h
 ·rename_i p q n u hp hq ht;cases hc:(Nat.beq n 5&&Hx P u&& !(P.eqGuardType P.depth t))<;>simp only [hc,cond_true,cond_false] at h
  ·cases h
  ·simp only [Bool.and_eq_true,Bool.not_eq_true'] at hc;obtain⟨⟨h5,hu⟩,hg⟩:=hc;have h5:=xBa h5;subst h5;have ex:=Km hp;have ey:=Km hq;unfold Hx at hu;split at hu
   ·rename_i k i hk hi;simp only [Option.some.injEq] at h;subst h;refine⟨⟨_,_,ex,ey⟩,by rw[ex,ey];rfl,hg,fun m=>?_⟩;rw[ex,ey];exact Vn m ht hk hi (xBa hu) _ _ _ _ _ _ _ _ _ _
   ·cases hu
 ·cases h
def uO(P:Program):List Field->Nat->Bool
 | [],_=>true
 |f::r,o=>f.name != "_" &&((match P.underlying f.type with|some (.int _)=>true|_=>false)&&(Nat.beq f.offset o&&uO P r (o+1)))
def vH:List Value->Option (List Int)
 | []=>some []
 | .int .i64 a::r=>(vH r).map (a::·)
 |_=>none
def Rg:List Int->List Int->Bool
 |a::x,b::y=>(a==b)&&Rg x y
 |_,_=>true
theorem uQ{l:List Value}{r:List Int}(h:vH l=some r):l.length=r.length/\(∀(i:Nat) (a:Int),r[i]?=some a->l[i]?=some (.int .i64 a))/\dU l=true:=by
 induction l generalizing r with
 |nil=>cases h;exact⟨rfl,fun i a ha=>by simp at ha,rfl⟩
 |cons v l ih=>
  unfold vH at h
  split at h
  ·rename_i heq;cases heq
  ·rename_i a r' heq;cases heq;cases hr:vH l with
   |none=>rw[hr] at h;cases h
   |some q=>
    rw[hr] at h
    cases h
    obtain⟨h1,h2,h3⟩:=ih hr
    refine⟨by simp [h1],fun i b hb=>?_,by rw[dU,h3];rfl⟩
    cases i with
    |zero=>simp only [List.getElem?_cons_zero,Option.some.injEq] at hb⊢;rw[hb]
    |succ i=>rw[List.getElem?_cons_succ] at hb⊢;exact h2 i b hb
  ·cases h
theorem Yq(n:Nat)(xs ys:Array Value)(as bs:List Int)(hx:vH xs.toList=some as)(hy:vH ys.toList=some bs):∀(fs:List Field) (o:Nat),uO P fs o=true->fs.length+o=as.length->fs.length+o=bs.length->
  cF P (forIn fs ((none,()):Option Bool×Unit) fun f __s=>
      if f.name≠ "_" then do
       let __do_lift<-part f.type xs f.offset
       let __do_lift_1<-part f.type ys f.offset
       let __do_lift<-Op.equalIn (n+1) f.type __do_lift __do_lift_1
       if(!__do_lift)=true then pure (ForInStep.done (some false,())) else pure (ForInStep.yield (none,()))
      else pure (ForInStep.yield (none,())))=some (bif Rg (as.drop o) (bs.drop o) then(none,()) else(some false,())):=by
 intro fs
 induction fs with
 |nil=>
  intro o _ h1 h2
  have e1:as.drop o=[]:=List.drop_eq_nil_of_le (by simp at h1;omega)
  rw[List.forIn_nil,e1]
  rfl
 |cons f fs ih=>
  intro o h h1 h2
  unfold uO at h
  simp only [Bool.and_eq_true,bne_iff_ne] at h
  obtain⟨hn,hu,ho,hr⟩:=h
  have ho:=xBa ho
  split at hu
  ·rename_i k hk;simp only [List.length_cons] at h1 h2;have ha:as[o]?=some (as[o]'(by omega)):=xAe (by omega);have hb:bs[o]?=some (bs[o]'(by omega)):=xAe (by omega);have p0:=eF (P:=P) (cs:=xs) (off:=f.offset) (v:= .int .i64 (as[o]'(by omega))) hk (by rw[ho,<-Array.getElem?_toList];exact(uQ hx).2.1 _ _ ha);have q0:=eF (P:=P) (cs:=ys) (off:=f.offset) (v:= .int .i64 (bs[o]'(by omega))) hk (by rw[ho,<-Array.getElem?_toList];exact(uQ hy).2.1 _ _ hb);rw[List.forIn_cons,if_pos hn];simp only [eU,p0,q0,Option.bind_some,Sv n _ _ hk];rw[List.drop_eq_getElem_cons (show o<as.length by omega),List.drop_eq_getElem_cons (show o<bs.length by omega),Rg];cases e:(as[o]'(by omega)==bs[o]'(by omega)) with
   |true=>
    simp only [Bool.not_true,Bool.false_eq_true,if_false,kU,Option.bind_some,Bool.true_and]
    exact ih (o+1) hr (by omega) (by omega)
   |false=>
    simp only [Bool.not_false,if_true,kU,Option.bind_some,Bool.false_and,cond_false]
  ·cases hu
theorem strEq'(n:Nat){t:TypeId}{fs:Array Field}(ht:P.underlying t=some (.struct fs))(hs:P.stoodInHeld t=false){xs ys:Array Value}{as bs:List Int}(hx:vH xs.toList=some as)(hy:vH ys.toList=some bs)(hf:uO P fs.toList 0=true)(h1:fs.toList.length=as.length)(h2:fs.toList.length=bs.length):
  cF P (Op.equalIn (n+1+1) t (.agg xs) (.agg ys))=some (Rg as bs):=by
 rw[Op.equalIn.eq_def]
 have hp:cF P program=some P:=rfl
 simp only [eU,qK ht,Option.bind_some,hp,hs,Bool.false_eq_true,if_false]
 rw[<-Array.forIn_toList,Yq n xs ys as bs hx hy fs.toList 0 hf h1 h2]
 rw[List.drop_zero,List.drop_zero]
 cases Rg as bs<;>rfl
def Uw(P:Program)(t:TypeId)(x y:Value):Option Bool:=match P.underlying t,x,y with
 |some (.struct ⟨fs⟩),.agg ⟨xs⟩,.agg ⟨ys⟩=>match vH xs,vH ys with
  |some a,some b=>bif uO P fs 0&&(Nat.beq fs.length a.length&&(Nat.beq fs.length b.length&&(!(P.stoodInHeld t)&& !(P.eqGuardType P.depth t)))) then some (Rg a b) else none
  |_,_=>none
 |_,_,_=>none
theorem Om{t:TypeId}{x y:Value}{r:Bool}(h:Uw P t x y=some r):(∃xs ys,x= .agg xs/\y= .agg ys)/\(flat x&&flat y)=true/\P.eqGuardType P.depth t=false/\∀n,cF P (Op.equalIn (n+1+1) t x y)=some r:=by
 unfold Uw at h;split at h
 ·rename_i fs xs ys ht;split at h
  ·rename_i a b ha hb;cases hc:(uO P fs 0&&(Nat.beq fs.length a.length&&(Nat.beq fs.length b.length&&(!(P.stoodInHeld t)&& !(P.eqGuardType P.depth t)))))<;>simp only [hc,cond_true,cond_false] at h
   ·cases h
   ·simp only [Bool.and_eq_true,Bool.not_eq_true'] at hc;obtain⟨h1,h2,h3,h4,h5⟩:=hc;cases h;exact⟨⟨_,_,rfl,rfl⟩,by show(dU xs&&dU ys)=true;rw[(uQ ha).2.2,(uQ hb).2.2];rfl,h5,fun m=>strEq' m ht h4 ha hb h1 (xBa h2) (xBa h3)⟩
  ·cases h
 ·cases h
def Jt(P:Program)(t:TypeId)(x y:Value):Option Bool:=match Mu P t x y with
 |some r=>some r
 |none=>Uw P t x y
theorem Mv{t:TypeId}{x y:Value}{r:Bool}(h:Jt P t x y=some r):(∃xs ys,x= .agg xs/\y= .agg ys)/\(flat x&&flat y)=true/\P.eqGuardType P.depth t=false/\∀n,cF P (Op.equalIn (n+1+1) t x y)=some r:=by
 unfold Jt at h;split at h
 ·rename_i r' hr;cases h;exact Ju hr
 ·exact Om h
theorem Jm{GL:List Nat}{T:Tr Value}{dst:Option Nat}{t t' ty:TypeId}{x y:Operand}{pos:String}{after:Array Edge}{guard:Option (Nat×Bool)}{vx vy:Value}{r:Bool}
  (hx:ev GL T x=some vx) (hy:ev GL T y=some vy) (h:Jt P t vx vy=some r):
  fL P GL ⟨dst,.binOp .neq t x y t',ty,pos,after,guard⟩ T=some (.val (.bool (!r)))/\fL P GL ⟨dst,.binOp .eql t x y t',ty,pos,after,guard⟩ T=some (.val (.bool r)):=by
 obtain⟨⟨xs,ys,rfl,rfl⟩,hf,hg,hr⟩:=Mv h
 have hr:cF P (Op.equalIn 10000 t (.agg xs) (.agg ys))=some r:=hr 9998
 simp only [Bool.and_eq_true,flat] at hf
 have g:∀op,cF P (eqGuard op t x y (.agg xs) (.agg ys))=some ():=fun op=>by
  have hp:cF P program=some P:=rfl;unfold eqGuard;cases op<;>first|rfl|simp [eU,hp,hg,kU]
 have e:Op.equal t (.agg xs) (.agg ys)=Op.equalIn 10000 t (.agg xs) (.agg ys):=rfl
 constructor<;>simp [fL,kO,jS,Op.operands,pS,hx,hy,dU,hf.1,hf.2,execOp,binOp,eU,Lf,g,e,hr,kU,flat]
end Go.Am

noncomputable section
namespace Go.Am
open Go
abbrev Fp:=Nat×AR×aB
def zM:List (Nat×Option aR)->Tr aR->Tr aR
 | [],T=>T
 |(i,b)::l,T=>(zM l T).set i b
def xU:List aR->Nat->Tr aR->Tr aR
 | [],_,T=>T
 |b::l,n,T=>xU l (n+1) (T.set n (some b))
def aB.mut(M:aB)(olds:List (Nat×Option aR))(news:List aR):aB:=⟨xU news M.next (zM olds M.blks),M.next+news.length,M.hide,olds.map (·.1)++M.log⟩
inductive Qu where
 |bool (b:Bool)
 |load (t:TypeId) (a:Addr) (M:aB)
 |store (t:TypeId) (a:Addr) (v:Value) (M:aB)
 |inb (i:Int) (n:Nat)
 |call (f:FuncId) (args:List Value) (M:aB)
 |callr (f:FuncId) (args:List Value) (M:aB)
 |append (tys:List TypeId) (s x:Value) (M:aB)
 |copy (tys:List TypeId) (d x:Value) (M:aB)
 |slice (t:TypeId) (x:Value) (lo hi mx:Option Value) (M:aB)
 |conv (src dst:TypeId) (x:Value) (M:aB)
 |app (tys:List TypeId) (s x:Value) (M:aB) (old:List Value) (b:aR) (new:List Value)
 |calla (f:FuncId) (args:List Value) (M:aB) (v:AR) (b:aR)
 |app2 (k:Nat) (tys:List TypeId) (s x:Value) (M:aB) (old new:List Value) (b:aR)
 |nz (q:Int)
 |stx (t:TypeId) (a:Addr) (v:Value) (M:aB) (new:List Value) (b:aR)
 |blk (id:Nat) (b:Code) (s:St) (e:cT) (s':St)
 |mks (t:TypeId) (l c:Value) (M:aB) (v:AR) (b:aR)
 |mcall (f:FuncId) (args:List Value) (M:aB) (v:Value) (olds:List (Nat×Option aR)) (news:List aR)
 |sidx (s:ByteArray) (i n:Int)
 |scat (s t:ByteArray)
def Rs(P:Program)(tys:List TypeId)(s x:Value)(M:aB)(old:List Value):Option (aR×List Value×(Nat×AR×aB)):=
 match tys with
 | [sT,_]=>match P.underlying sT,s with
  |some (.slice elem),.slice (some ad) len _=>match P.info? elem,nX x,M.get ad.block with
   |some e,some n,some b=>match iS M e.size n x with
    |some new=>some (b,new,(2,.val (.slice (some ⟨M.next,0,none⟩) (len+n) (len+n)),(M.put ad.block none).alloc {cs:=old++new,elem:=b.elem,esz:=b.esz,wf:=b.wf-ad.off,app:=true}))
    |none=>none
   |_,_,_=>none
  |_,_=>none
 |_=>none
def Hi(P:Program)(k:Nat)(tys:List TypeId)(s x:Value)(M:aB)(old new:List Value):Option (aR×(Nat×AR×aB)):=
 match tys with
 | [sT,_]=>match P.underlying sT,s with
  |some (.slice elem),.slice (some ad) len _=>match P.info? elem,nX x,M.get ad.block with
   |some e,some n,some b=>match k with
    |6=>some (b,(2,.val (.slice (some ⟨M.next,0,none⟩) (len+n) (len+n)),(M.put ad.block none).alloc {cs:=old++new,elem:=b.elem,esz:=b.esz,wf:=b.wf-ad.off,app:=true}))
    |7=>some (b,(1,.val (.slice (some ⟨M.next,0,none⟩) (len+n) (len+n)),nT e.size elem (old++new) M))
    |8=>some (b,(1,.val s,M))
    |_=>none
   |_,_,_=>none
  |_,_=>none
 |_=>none
theorem Jq{P:Program}{k:Nat}{tys:List TypeId}{s x:Value}{M:aB}{old new:List Value}{b:aR}{r:Nat×AR×aB}(h:Hi P k tys s x M old new=some (b,r)):r.1≠0:=by
 unfold Hi at h;split at h<;>try cases h
 split at h<;>try cases h
 split at h<;>try cases h
 split at h<;>try cases h
 all_goals simp
def La:aB:=⟨.nil,0,[],[]⟩
def uY(b:Bool):Fp:=(0,.val (.bool b),La)
def jN(SP:dC):dD:=fV SP fun _ _ _=>none
def Qu.holds(P:Program)(SP:dC):Qu->Fp->Prop
 | .bool b,a=>a.2.1= .val (.bool b)
 | .load t x M,a=>∃v,a.2.1= .val v/\bA P t x M=some v
 | .store t x v M,a=>∃M',a=(2,.skip,M')/\eB P t x v M=some M'
 | .inb i n,_=>Nq i n=true
 | .call f args M,a=>lB (jN SP) f args M=some a/\a.1≠0
 | .callr f args M,a=>lB (jN SP) f args M=some (1,a.2.1,M)
 | .append tys s x M,a=>dM P tys s x M=some a/\a.1≠0
 | .copy tys d x M,a=>Jf P tys d x M=some a/\a.1≠0
 | .slice t x lo hi mx M,a=>∃v,a.2.1= .val v/\vY P t x lo hi mx M=some v
 | .conv src dst x M,a=>qX P src dst x M=some a/\a.1≠0
 | .app tys s x M old b new,_=>∀r,Rs P tys s x M old=some (b,new,r)->dM P tys s x M=some r
 | .calla f args M v b,_=>lB (jN SP) f args M=some (1,v,M.alloc b)
 | .app2 k tys s x M old new b,_=>∀r,Hi P k tys s x M old new=some (b,r)->dM P tys s x M=some r
 | .nz q,_=>q≠0
 | .stx t x v M new b,_=>M.get x.block=some b->eB P t x v M=some (M.put x.block (some {b with cs:=new}))
 | .blk id b s e s',_=>∃g,SP.blocks id=some g/\g b s=some (e,s')
 | .mks t l c M v b,_=>bR P t l c M=some (1,v,M.alloc b)
 | .mcall f args M v olds news,_=>lB (jN SP) f args M=some (2,.val v,M.mut olds news)
 | .sidx s i n,_=>∃b:UInt8,0<=i/\s[i.toNat]?=some b/\n=b.toNat
 | .scat s t,_=>s.size+t.size<=2^62
def Hw(P:Program)(t:TypeId)(x ix:Value):Option (Value×Int×Nat):=
 match P.underlying t,x,ix with
 |some (.slice elem),.slice (some ⟨b,o,none⟩) len _,.int _ i=>
  match P.info? elem with
  |some e=>some (.pointer (some ⟨b,o+i.toNat*e.size,none⟩),i,len)
  |none=>none
 |some (.array len elem),.pointer (some ⟨b,o,none⟩),.int _ i=>
  match P.info? elem with
  |some e=>some (.pointer (some ⟨b,o+i.toNat*e.size,none⟩),i,len)
  |none=>none
 |_,_,_=>none
theorem tF(b o n:Nat):(⟨b,o,none⟩:Addr).add n=⟨b,o+n,none⟩:=by
 unfold Addr.add;split
 ·rename_i h;subst h;rfl
 ·rfl
theorem Fe{P:Program}{t:TypeId}{x ix v:Value}{i:Int}{n:Nat}(h:Hw P t x ix=some (v,i,n))(hb:Nq i n=true):oW P t x ix=some v:=by
 unfold Hw at h;unfold oW;split at h
 ·split at h
  ·rename_i e he;simp only [Option.some.injEq,Prod.mk.injEq] at h;obtain⟨rfl,rfl,rfl⟩:=h;rename_i hu _ _ _;simp [*,tF]
  ·cases h
 ·split at h
  ·rename_i e he;simp only [Option.some.injEq,Prod.mk.injEq] at h;obtain⟨rfl,rfl,rfl⟩:=h;simp [*,tF]
  ·cases h
 ·cases h
def hop(P:Program)(GL:List Nat)(o:Oper)(T:Tr Value)(M:aB)(a:Fp):Option (Fp×Qu):=
 match o.op with
 | .load t x=>match ev GL T x with|some (.pointer (some ad))=>some ((1,a.2.1,M),.load t ad M)|_=>none
 | .store t x y=>match ev GL T x,ev GL T y with
  |some (.pointer (some ad)),some v=>bif Nat.beq a.1 3 then match a.2.1,M.get ad.block with
    | .val (.agg ⟨new⟩),some b=>some ((2,.skip,M.put ad.block (some {b with cs:=new})),.stx t ad v M new b)
    |_,_=>none
   else some (a,.store t ad v M)
  |_,_=>none
 | .indexAddr t x ix=>match ev GL T x,ev GL T ix with
  |some v,some i=>match Hw P t v i with
   |some (r,i,n)=>some ((0,.val r,M),.inb i n)
   |none=>none
  |_,_=>none
 | .pick c x y=>match ev GL T c,a.2.1 with
  |some (.bool b),.val (.bool t)=>match ev GL T (bif t then x else y) with
   |some v=>some ((0,.val v,M),.bool b)
   |none=>none
  |_,_=>none
 | .index t x ix=>match ev GL T x,ev GL T ix,P.underlying t,a.2.1 with
  |some (.string s),some (.int _ i),some .string,.val (.int .u8 n)=>some ((0,.val (.int .u8 n),M),.sidx s i n)
  |_,_,_,_=>none
 | .binOp .add _ x y _=>match ev GL T x,ev GL T y with
  |some (.string s),some (.string t)=>some ((0,.val (.string (s++t)),M),.scat s t)
  |_,_=>none
 | .binOp .rem _ x y _=>match ev GL T x,ev GL T y with
  |some (.int k p),some (.int k' q)=>if k=k' then some ((0,.val (.int k (p.tmod q)),M),.nz q) else none
  |_,_=>none
 | .binOp .quo _ x y _=>match ev GL T x,ev GL T y with
  |some (.int k p),some (.int k' q)=>if k=k' then some ((0,.val (.int k (k.wrap (p.tdiv q))),M),.nz q) else none
  |_,_=>none
 | .binOp .shr _ x y _=>match ev GL T x,ev GL T y with
  |some (.int k p),some (.int _ q)=>some ((0,.val (.int k (p.fdiv (2^q.toNat))),M),.inb q k.bits)
  |_,_=>none
 | .binOp .neq t x y _=>match ev GL T x,ev GL T y,a.2.1 with
  |some vx,some vy,.val (.bool r)=>match Jt P t vx vy with
   |some e=>some ((0,.val (.bool r),M),.bool (!e))
   |none=>none
  |_,_,_=>none
 | .binOp .eql t x y _=>match ev GL T x,ev GL T y,a.2.1 with
  |some vx,some vy,.val (.bool r)=>match Jt P t vx vy with
   |some e=>some ((0,.val (.bool r),M),.bool e)
   |none=>none
  |_,_,_=>none
 | .slice t x lo hi mx=>match ev GL T x,pS GL T (lo.toList++hi.toList++mx.toList) with
  |some v,some _=>some ((1,a.2.1,M),.slice t v (lo.bind (ev GL T)) (hi.bind (ev GL T)) (mx.bind (ev GL T)) M)
  |_,_=>none
 | .convert src dst x=>match ev GL T x with|some v=>some (a,.conv src dst v M)|none=>none
 | .makeSlice t l c=>match ev GL T l,ev GL T c,a.2.2.blks.get 0 with
  |some l,some c,some b=>some ((1,a.2.1,M.alloc b),.mks t l c M a.2.1 b)
  |_,_,_=>none
 | .call c=>match c.callee with
  | .value f=>match ev GL T f,pS GL T c.args.toList with
   |some fv,some args=>match zR fv with
    |some (g,first,captured)=>bif fI P g then bif Nat.beq a.1 1 then some ((1,a.2.1,M),.callr g (first++args++captured) M)
     else bif Nat.beq a.1 4 then match a.2.2.blks.get 0 with
      |some b=>some ((1,a.2.1,M.alloc b),.calla g (first++args++captured) M a.2.1 b)
      |none=>none
     else some (a,.call g (first++args++captured) M) else none
    |none=>none
   |_,_=>none
  | .builtin .append=>match pS GL T c.args.toList with
   |some [s,x]=>bif Nat.beq a.1 3 then match a.2.1 with
    | .val (.agg ⟨old⟩)=>match Rs P c.argTypes.toList s x M old with
     |some (b,new,r)=>some (r,.app c.argTypes.toList s x M old b new)
     |none=>none
    |_=>none
    else bif Nat.ble 6 a.1 then match a.2.1 with
    | .val (.tuple ⟨[.agg ⟨old⟩,.agg ⟨new⟩]⟩)=>match Hi P a.1 c.argTypes.toList s x M old new with
     |some (b,r)=>some (r,.app2 a.1 c.argTypes.toList s x M old new b)
     |none=>none
    |_=>none
    else some (a,.append c.argTypes.toList s x M)
   |_=>none
  | .builtin .copy=>match pS GL T c.args.toList with|some [d,x]=>some (a,.copy c.argTypes.toList d x M)|_=>none
  |_=>none
 |_=>none
variable{P:Program}{GL:List Nat}{callF:dD}{SP:dC}
theorem eK{o:Oper}{T:Tr Value}{M:aB}{r:Fp}(h0:fL P GL o T=none)(h1:fM P GL callF o T M=some r)(hr:r.1≠0):jY P GL callF o T M=some r:=by
 unfold jY;rw[h0,h1];obtain⟨k,r,M'⟩:=r;cases k with
 |zero=>exact absurd rfl hr
 |succ k=>rfl
theorem oQ{cf cf':dD}(hc:∀f a M r,cf f a M=some r->cf' f a M=some r){f:FuncId}{a:List Value}{M:aB}{r:Fp}(h:lB cf f a M=some r):lB cf' f a M=some r:=by
 unfold lB at h⊢;cases hv:cf f a {M with log:=[]} with
 |none=>rw[hv] at h;cases h
 |some r1=>rw[hc _ _ _ _ hv];rw[hv] at h;exact h
def zU(SP:dC)(callF:dD):Prop:=∀f a M r,jN SP f a M=some r->callF f a M=some r
theorem Ql(SP:dC)(cf:dD):zU SP (fV SP cf):=fun f a M r h=>by
 unfold jN fV at h;unfold fV;cases hs:SP.calls f with
 |none=>rw[hs] at h;cases h
 |some g=>rw[hs] at h;exact h
theorem Jn{P:Program}{GL:List Nat}{T:Tr Value}{dst:Option Nat}{x y:Operand}{t t' ty:TypeId}{pos:String}{after:Array Edge}{guard:Option (Nat×Bool)}{k:IntKind}{a b:Int}
  (hx:ev GL T x=some (.int k a)) (hy:ev GL T y=some (.int k b)) (hb:b≠0):
  fL P GL ⟨dst,.binOp .rem t x y t',ty,pos,after,guard⟩ T=some (.val (.int k (a.tmod b)))/\fL P GL ⟨dst,.binOp .quo t x y t',ty,pos,after,guard⟩ T=some (.val (.int k (k.wrap (a.tdiv b)))):=by
 have h:∀v:Next,cF P (pure v)=some v:=fun v=>rfl
 constructor<;>simp [fL,kO,jS,Op.operands,pS,hx,hy,dU,flat,execOp,eqGuard,binOp,Op.intDiv,hb,h]
theorem Rq{P:Program}{GL:List Nat}{T:Tr Value}{dst:Option Nat}{x y:Operand}{t t' ty:TypeId}{pos:String}{after:Array Edge}{guard:Option (Nat×Bool)}{k k':IntKind}{a b:Int}
  (hx:ev GL T x=some (.int k a)) (hy:ev GL T y=some (.int k' b)) (hb:Nq b k.bits=true):
  fL P GL ⟨dst,.binOp .shr t x y t',ty,pos,after,guard⟩ T=some (.val (.int k (a.fdiv (2^b.toNat)))):=by
 have h:∀v:Next,cF P (pure v)=some v:=fun v=>rfl
 obtain⟨h0,h1⟩:=tV hb
 have h2:¬b<0:=by omega
 have h3:min b.toNat k.bits=b.toNat:=by omega
 simp [fL,kO,jS,Op.operands,pS,hx,hy,dU,flat,execOp,eqGuard,binOp,Op.shift,h2,h3,h]
theorem Ps{P:Program}{GL:List Nat}{T:Tr Value}{dst:Option Nat}{t ty:TypeId}{x ix:Operand}{pos:String}{after:Array Edge}{guard:Option (Nat×Bool)}{s:ByteArray}{k:IntKind}{i:Int}{b:UInt8}
  (hx:ev GL T x=some (.string s)) (hi:ev GL T ix=some (.int k i)) (ht:P.underlying t=some .string) (h0:0<=i) (hs:s[i.toNat]?=some b):
  fL P GL ⟨dst,.index t x ix,ty,pos,after,guard⟩ T=some (.val (.int .u8 b.toNat)):=by
 have a0:cF P (execOp (fun x=>(ev GL T x).getD undef) ⟨dst,.index t x ix,ty,pos,after,guard⟩)=some (.value (.int .u8 b.toNat)):=by
  simp [execOp,Instr.index,asIntOf,underlying,program,bind,Sem.bind,cF,pure,hx,hi,ht,hs,h0]
 simp [fL,kO,jS,Op.operands,pS,hx,hi,dU,flat,a0]
theorem Pr{P:Program}{GL:List Nat}{T:Tr Value}{dst:Option Nat}{t t' ty:TypeId}{x y:Operand}{pos:String}{after:Array Edge}{guard:Option (Nat×Bool)}{s u:ByteArray}
  (hx:ev GL T x=some (.string s)) (hy:ev GL T y=some (.string u)) (h:s.size+u.size<=2^62):
  fL P GL ⟨dst,.binOp .add t x y t',ty,pos,after,guard⟩ T=some (.val (.string (s++u))):=by
 have hp:∀v:Next,cF P (pure v)=some v:=fun v=>rfl
 have hm:IntKind.i64.max=9223372036854775807:=rfl
 have hn:¬((9223372036854775807:Int)<(s.size:Int)+(u.size:Int)):=by omega
 simp [fL,kO,jS,Op.operands,pS,hx,hy,dU,flat,execOp,eqGuard,binOp,Op.stringOp,hm,hn,hp]
theorem Qg(hK:zU SP callF){o:Oper}{T:Tr Value}{M:aB}{a r:Fp}{q:Qu}(h:hop P GL o T M a=some (r,q))(hq:q.holds P SP a):jY P GL callF o T M=some r:=by
 obtain⟨dst,op,type,pos,after,guard⟩:=o;unfold hop at h;split at h<;>rename_i hop<;>simp only at hop
 ·rename_i t x;subst hop;split at h
  ·rename_i ad hx;cases h;obtain⟨v,ha,hv⟩:=hq;refine eK (by simp [fL]) ?_ (by simp);simp [fM,hx,hv,ha]
  ·cases h
 ·rename_i t x y;subst hop;split at h
  ·rename_i ad v hx hy;cases hn:Nat.beq a.1 3<;>simp only [hn,cond_true,cond_false] at h
   ·cases h;obtain⟨M',rfl,hv⟩:=hq;refine eK (by simp [fL]) ?_ (by simp);simp [fM,hx,hy,hv]
   ·split at h
    ·rename_i new b _ hb;cases h;refine eK (by simp [fL]) ?_ (by simp);simp [fM,hx,hy,hq hb]
    ·cases h
  ·cases h
 ·rename_i t x ix;subst hop;split at h
  ·rename_i v i hx hi;split at h
   ·rename_i r i' n' hr;cases h;have:=Fe hr hq;unfold jY;simp only [fL,hx,hi,this,yH]
   ·cases h
  ·cases h
 ·rename_i c x y;subst hop;split at h
  ·rename_i b t hc ha;split at h
   ·rename_i v hv;cases h;have hb:b=t:=by
     have:a.2.1= .val (.bool b):=hq;rw[ha] at this;cases this;rfl
    subst hb;unfold jY;simp only [fL,hc,hv,yH]
   ·cases h
  ·cases h
 ·rename_i t x ix;subst hop;split at h
  ·rename_i s k i n hx hi ht ha;cases h;obtain⟨b,h0,hs,rfl⟩:=hq;unfold jY;simp only [Ps hx hi ht h0 hs]
  ·cases h
 ·rename_i t x y t';subst hop;split at h
  ·rename_i s u hx hy;cases h;unfold jY;simp only [Pr hx hy hq]
  ·cases h
 ·rename_i x y _;subst hop;split at h
  ·rename_i k p k' q' hx hy;split at h
   ·rename_i hk;subst hk;cases h;unfold jY;simp only [(Jn hx hy hq).1]
   ·cases h
  ·cases h
 ·rename_i x y _;subst hop;split at h
  ·rename_i k p k' q' hx hy;split at h
   ·rename_i hk;subst hk;cases h;unfold jY;simp only [(Jn hx hy hq).2]
   ·cases h
  ·cases h
 ·rename_i x y _;subst hop;split at h
  ·rename_i k p k' q' hx hy;cases h;unfold jY;simp only [Rq hx hy hq]
  ·cases h
 ·rename_i t x y _;subst hop;split at h
  ·rename_i vx vy r hx hy ha;split at h
   ·rename_i e he;cases h;have hb:a.2.1= .val (.bool (!e)):=hq;rw[ha] at hb;cases hb;unfold jY;simp only [(Jm hx hy he).1]
   ·cases h
  ·cases h
 ·rename_i t x y _;subst hop;split at h
  ·rename_i vx vy r hx hy ha;split at h
   ·rename_i e he;cases h;have hb:a.2.1= .val (.bool (e)):=hq;rw[ha] at hb;cases hb;unfold jY;simp only [(Jm hx hy he).2]
   ·cases h
  ·cases h
 ·rename_i t x lo hi mx;subst hop;split at h
  ·rename_i v vs hx hvs;cases h;obtain⟨u,ha,hu⟩:=hq;refine eK ?_ ?_ (by simp)
   ·have a3:∀s,v≠ .string s:=fun s hs=>by
     subst hs;unfold vY at hu;cases hmh:(mx.bind (ev GL T)).isSome&&(hi.bind (ev GL T)).isNone<;>simp only [hmh,cond_true,cond_false] at hu
     ·split at hu
      ·rename_i heq;cases heq
      ·rename_i heq;cases heq
      ·rename_i heq;cases heq
      ·cases hu
     ·cases hu
    simp only [fL,hx];cases v<;>first|rfl|exact absurd rfl (a3 _)
   ·simp only [fM,hx,hvs,hu,ha]
  ·cases h
 ·rename_i src dst x;subst hop;split at h
  ·rename_i v hx;cases h;obtain⟨hu,hk⟩:=hq;refine eK ?_ (by simp [fM,hx,hu]) hk;simp only [fL];unfold qX at hu;split at hu
   ·rename_i h1 h2;simp [h2]
   ·rename_i h1 h2;rw[h2];simp only [hx]
   ·rename_i h1 h2;rw[h2];simp only [hx];simp [jS,Op.operands,pS,hx,dU,flat]
   ·rename_i h1 h2;rw[h2];simp only [hx];simp [jS,Op.operands,pS,hx,dU,flat]
   ·cases hu
  ·cases h
 ·rename_i t l c;subst hop;split at h
  ·rename_i lv cv b hl hc _;cases h;have hu:bR P t lv cv M=some (1,a.2.1,M.alloc b):=hq;refine eK (by simp [fL]) ?_ (by simp);simp only [fM,hl,hc,hu]
  ·cases h
 ·rename_i c;subst hop;obtain⟨callee,args,argTypes⟩:=c;simp only at h;split at h
  ·rename_i f;split at h
   ·rename_i fv as hf has;split at h
    ·rename_i g first captured htg
     cases hb:fI P g<;>simp only [hb,cond_true,cond_false] at h
     ·cases h
     ·cases hn:Nat.beq a.1 1<;>simp only [hn,cond_true,cond_false] at h
      ·cases a1:Nat.beq a.1 4<;>simp only [a1,cond_true,cond_false] at h
       ·cases h;obtain⟨hu,hk⟩:=hq;refine eK (by simp [fL,hf,htg,hb]) ?_ hk;simp only [fM,hf,has,htg,hb,cond_true,oQ hK hu]
       ·split at h
        ·cases h;refine eK (by simp [fL,hf,htg,hb]) ?_ (by simp);simp only [fM,hf,has,htg,hb,cond_true,oQ hK hq]
        ·cases h
      ·cases h;refine eK (by simp [fL,hf,htg,hb]) ?_ (by simp);simp only [fM,hf,has,htg,hb,cond_true,oQ hK hq]
    ·cases h
   ·cases h
  ·split at h
   ·rename_i s x has;cases hn:Nat.beq a.1 3<;>simp only [hn,cond_true,cond_false] at h
    ·cases a2:Nat.ble 6 a.1<;>simp only [a2,cond_true,cond_false] at h
     ·cases h;obtain⟨hu,hk⟩:=hq;exact eK (by simp [fL]) (by simp [fM,has,hu]) hk
     ·split at h
      ·rename_i old new _;split at h
       ·rename_i b r1 a0;cases h;have hu:=hq _ a0;exact eK (by simp [fL]) (by simp [fM,has,hu]) (Jq a0)
       ·cases h
      ·cases h
    ·split at h
     ·rename_i old _;split at h
      ·rename_i b new r1 a0;cases h;have hu:=hq _ a0;refine eK (by simp [fL]) (by simp [fM,has,hu]) ?_;unfold Rs at a0;split at a0<;>try cases a0
       split at a0<;>try cases a0
       split at a0<;>try cases a0
       split at a0<;>try cases a0
       simp
      ·cases h
     ·cases h
   ·cases h
  ·split at h
   ·rename_i s x has;cases h;obtain⟨hu,hk⟩:=hq;exact eK (by simp [fL]) (by simp [fM,has,hu]) hk
   ·cases h
  ·cases h
 ·cases h
theorem Pt{cf a1:dD}(hc:∀f a M r,cf f a M=some r->a1 f a M=some r){o:Oper}{T:Tr Value}{M:aB}{r:Fp}(h:jY P GL cf o T M=some r):jY P GL a1 o T M=some r:=by
 have a0:∀f a M r,lB cf f a M=some r->lB a1 f a M=some r:=fun f a M r h=>oQ hc h
 unfold jY at h⊢;split at h
 ·exact h
 ·rename_i h0;have h1:∀r,fM P GL cf o T M=some r->fM P GL a1 o T M=some r:=fun r h=>by
   unfold fM at h⊢;split at h<;>try exact h
   rename_i c _;split at h<;>try exact h
   ·split at h<;>try exact h
    split at h
    ·rename_i g first captured _
     cases hb:fI P g<;>simp only [hb,cond_true,cond_false] at h⊢
     ·exact h
     ·exact a0 _ _ _ _ h
    ·unfold Hm at h⊢;split at h
     ·exact a0 _ _ _ _ h
     ·cases h
   ·split at h<;>try exact h
    split at h<;>try exact h
    rename_i g _;cases hb:fI P g<;>simp only [hb,cond_true,cond_false] at h⊢
    ·cases h
    ·exact a0 _ _ _ _ h
  cases h2:fM P GL cf o T M with
  |none=>rw[h2] at h;cases h
  |some r2=>rw[h1 _ h2];rw[h2] at h;exact h
end Go.Am
end

noncomputable section
namespace Go.Am
open Go
variable{P:Program}{GL:List Nat}{callF:dD}{SP:dC}
def yW(P:Program)(GL:List Nat)(o:Oper)(T:Tr Value):Option (FuncId×List Value):=
 match o.op with
 | .call c=>match c.callee with
  | .value f=>match ev GL T f,pS GL T c.args.toList with
   |some fv,some args=>match zR fv with
    |some (g,first,captured)=>bif fI P g then some (g,first++args++captured) else none
    |none=>none
   |_,_=>none
  | .invoke x name=>match ev GL T x,pS GL T c.args.toList with
   |some (.iface t v),some args=>match Bm P t name with
    |some g=>bif fI P g then some (g,v::args) else none
    |none=>none
   |_,_=>none
  |_=>none
 |_=>none
theorem Ba{o:Oper}{T:Tr Value}{g:FuncId}{args:List Value}(h:yW P GL o T=some (g,args))(M:aB):fM P GL callF o T M=lB callF g args M:=by
 obtain⟨dst,op,type,pos,after,guard⟩:=o;unfold yW at h;split at h<;>rename_i hop<;>simp only at hop
 ·rename_i c;subst hop;obtain⟨callee,args',argTypes⟩:=c;simp only at h;split at h
  ·rename_i f;split at h
   ·rename_i fv as hf has;split at h
    ·rename_i g' first captured htg
     cases hb:fI P g'<;>simp only [hb,cond_true,cond_false] at h
     ·cases h
     ·simp only [Option.some.injEq,Prod.mk.injEq] at h;obtain⟨rfl,rfl⟩:=h;simp only [fM,hf,has,htg,hb,cond_true]
    ·cases h
   ·cases h
  ·rename_i x name;split at h
   ·rename_i t v as hf has;split at h
    ·rename_i g' hg';cases hb:fI P g'<;>simp only [hb,cond_true,cond_false] at h
     ·cases h
     ·simp only [Option.some.injEq,Prod.mk.injEq] at h;obtain⟨rfl,rfl⟩:=h;simp only [fM,hf,has,hg',hb,cond_true]
    ·cases h
   ·cases h
  ·cases h
 ·cases h
end Go.Am
end
