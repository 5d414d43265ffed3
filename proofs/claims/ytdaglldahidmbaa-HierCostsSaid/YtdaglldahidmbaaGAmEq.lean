/-
  Package hier: each of its laws for every argument; no conditions. The last text states which.
-/
import Derived.Test.YtdaglldahidmbaaAmExec
namespace Go.Am
open Go
set_option linter.unusedSimpArgs false
variable{P:Program}
theorem pureRun_bind{α β:Type}(m:Sem α)(f:α→Sem β):pureRun P (m>>=f)=(pureRun P m).bind fun a=>pureRun P (f a):=by
 show pureRun P (Sem.bind m f)=_
 induction m with
 |pure a=>rfl
 |program k ih=>show pureRun P (Sem.bind (k P) f)=_;rw[ih];rfl
 |mark m k ih=>show pureRun P (Sem.bind k f)=_;rw[ih];rfl
 |_=>rfl
theorem pureRun_map{α β:Type}(f:α→β)(m:Sem α):pureRun P (f<$>m)=(pureRun P m).map f:=by
 have:f<$>m=m>>=fun a=>pure (f a):=rfl
 rw[this,pureRun_bind]
 cases pureRun P m<;>rfl
theorem pureRun_pure{α:Type}(a:α):pureRun P (pure a:Sem α)=some a:=rfl
theorem pureRun_und{e:TypeId}{d:TypeDesc}(he:P.underlying e=some d):pureRun P (underlying e)=some d:=by
 simp [underlying,program,bind,Sem.bind,pureRun,he,pure]
theorem eqInt(d:Nat){e:TypeId}{k k':IntKind}(a b:Int)(he:P.underlying e=some (.int k')):pureRun P (Op.equalIn (d+1) e (.int k a) (.int k b))=some (a==b):=by
 unfold Op.equalIn
 rw[pureRun_bind,pureRun_und he]
 simp [pureRun,pure]
theorem pureRun_part{e:TypeId}{k:IntKind}{cs:Array Value}{off:Nat}{v:Value}(he:P.underlying e=some (.int k))(hv:cs[off]?=some v):pureRun P (part e cs off)=some v:=by
 have h1:pureRun P (isAgg e)=some false:=by
  unfold isAgg
  rw[pureRun_bind,pureRun_und he]
  rfl
 unfold part
 rw[pureRun_bind,h1]
 simp [hv,pureRun_pure]
theorem pureRun_size{e:TypeId}{i:TypeInfo}(hi:P.info? e=some i):pureRun P (sizeOf e)=some i.size:=by
 simp [sizeOf,typeInfo,program,bind,Sem.bind,pureRun,hi,pure]
def eq5(a b c d e a' b' c' d' e':Int):Bool:=(a==a')&&((b==b')&&((c==c')&&((d==d')&&(e==e'))))
theorem eqArr5'(n:Nat){t u:TypeId}{k0:IntKind}{i:TypeInfo}(ht:P.underlying t=some (.array 5 u))(hu:P.underlying u=some (.int k0))(hi:P.info? u=some i)(h1:i.size=1)(a b c d e a' b' c' d' e':Int):
  pureRun P (Op.equalIn (n+1+1) t (.agg ⟨[.int .i64 a,.int .i64 b,.int .i64 c,.int .i64 d,.int .i64 e]⟩) (.agg ⟨[.int .i64 a',.int .i64 b',.int .i64 c',.int .i64 d',.int .i64 e']⟩))=some (eq5 a b c d e a' b' c' d' e'):=by
 rw[Op.equalIn.eq_def]
 simp only [pureRun_bind,pureRun_und ht,Option.bind_some,pureRun_size hi,h1]
 simp only [Std.Legacy.Range.forIn_eq_forIn_range',Std.Legacy.Range.size,Nat.sub_zero,Nat.add_one_sub_one,Nat.div_one,show List.range' 0 5= [0,1,2,3,4] from rfl,List.forIn_cons,pureRun_bind]
 have p0:=pureRun_part (P:=P) (cs:=⟨[.int .i64 a,.int .i64 b,.int .i64 c,.int .i64 d,.int .i64 e]⟩) (off:=0*1) hu rfl
 have p1:=pureRun_part (P:=P) (cs:=⟨[.int .i64 a,.int .i64 b,.int .i64 c,.int .i64 d,.int .i64 e]⟩) (off:=1*1) hu rfl
 have p2:=pureRun_part (P:=P) (cs:=⟨[.int .i64 a,.int .i64 b,.int .i64 c,.int .i64 d,.int .i64 e]⟩) (off:=2*1) hu rfl
 have p3:=pureRun_part (P:=P) (cs:=⟨[.int .i64 a,.int .i64 b,.int .i64 c,.int .i64 d,.int .i64 e]⟩) (off:=3*1) hu rfl
 have p4:=pureRun_part (P:=P) (cs:=⟨[.int .i64 a,.int .i64 b,.int .i64 c,.int .i64 d,.int .i64 e]⟩) (off:=4*1) hu rfl
 have q0:=pureRun_part (P:=P) (cs:=⟨[.int .i64 a',.int .i64 b',.int .i64 c',.int .i64 d',.int .i64 e']⟩) (off:=0*1) hu rfl
 have q1:=pureRun_part (P:=P) (cs:=⟨[.int .i64 a',.int .i64 b',.int .i64 c',.int .i64 d',.int .i64 e']⟩) (off:=1*1) hu rfl
 have q2:=pureRun_part (P:=P) (cs:=⟨[.int .i64 a',.int .i64 b',.int .i64 c',.int .i64 d',.int .i64 e']⟩) (off:=2*1) hu rfl
 have q3:=pureRun_part (P:=P) (cs:=⟨[.int .i64 a',.int .i64 b',.int .i64 c',.int .i64 d',.int .i64 e']⟩) (off:=3*1) hu rfl
 have q4:=pureRun_part (P:=P) (cs:=⟨[.int .i64 a',.int .i64 b',.int .i64 c',.int .i64 d',.int .i64 e']⟩) (off:=4*1) hu rfl
 simp only [p0,p1,p2,p3,p4,q0,q1,q2,q3,q4,Option.bind_some,eqInt n _ _ hu]
 cases h1:a==a'<;>cases h2:b==b'<;>cases h3:c==c'<;>cases h4:d==d'<;>cases h5:e==e'<;>simp [eq5,h1,h2,h3,h4,h5,pureRun_pure,pureRun_bind,p0,p1,p2,p3,p4,q0,q1,q2,q3,q4,eqInt n _ _ hu]
def ints5:Value→Option (Int×Int×Int×Int×Int)
 | .agg ⟨[.int .i64 a,.int .i64 b,.int .i64 c,.int .i64 d,.int .i64 e]⟩=>some (a,b,c,d,e)
 |_=>none
theorem ints5_eq{v:Value}{p:Int×Int×Int×Int×Int}(h:ints5 v=some p):v= .agg ⟨[.int .i64 p.1,.int .i64 p.2.1,.int .i64 p.2.2.1,.int .i64 p.2.2.2.1,.int .i64 p.2.2.2.2]⟩:=by
 unfold ints5 at h
 split at h
 ·cases h;rfl
 ·cases h
def intCell(P:Program)(u:TypeId):Bool:=match P.underlying u,P.info? u with
 |some (.int _),some i=>Nat.beq i.size 1
 |_,_=>false
def arrEq(P:Program)(t:TypeId)(x y:Value):Option Bool:=match ints5 x,ints5 y,P.underlying t with
 |some p,some q,some (.array n u)=>bif Nat.beq n 5&&intCell P u&& !(P.eqGuardType P.depth t) then some (eq5 p.1 p.2.1 p.2.2.1 p.2.2.2.1 p.2.2.2.2 q.1 q.2.1 q.2.2.1 q.2.2.2.1 q.2.2.2.2) else none
 |_,_,_=>none
theorem arrEq_spec{t:TypeId}{x y:Value}{r:Bool}(h:arrEq P t x y=some r):(∃xs ys,x= .agg xs∧y= .agg ys)∧(flat x&&flat y)=true∧P.eqGuardType P.depth t=false∧ ∀n,pureRun P (Op.equalIn (n+1+1) t x y)=some r:=by
 unfold arrEq at h
 split at h
 ·rename_i p q n u hp hq ht
  cases hc:(Nat.beq n 5&&intCell P u&& !(P.eqGuardType P.depth t))<;>simp only [hc,cond_true,cond_false] at h
  ·cases h
  ·simp only [Bool.and_eq_true,Bool.not_eq_true'] at hc
   obtain⟨⟨h5,hu⟩,hg⟩:=hc
   have h5:=Nat.eq_of_beq_eq_true h5
   subst h5
   have ex:=ints5_eq hp
   have ey:=ints5_eq hq
   unfold intCell at hu
   split at hu
   ·rename_i k i hk hi
    simp only [Option.some.injEq] at h
    subst h
    refine⟨⟨_,_,ex,ey⟩,by rw[ex,ey];rfl,hg,fun m=> ?_⟩
    rw[ex,ey]
    exact eqArr5' m ht hk hi (Nat.eq_of_beq_eq_true hu) _ _ _ _ _ _ _ _ _ _
   ·cases hu
 ·cases h
theorem aop0_arr{GL:List Nat}{T:Tr Value}{dst:Option Nat}{t t' ty:TypeId}{x y:Operand}{pos:String}{after:Array Edge}{guard:Option (Nat×Bool)}{vx vy:Value}{r:Bool}
  (hx:ev GL T x=some vx) (hy:ev GL T y=some vy) (h:arrEq P t vx vy=some r):
  aop0 P GL ⟨dst,.binOp .neq t x y t',ty,pos,after,guard⟩ T=some (.val (.bool (!r)))∧aop0 P GL ⟨dst,.binOp .eql t x y t',ty,pos,after,guard⟩ T=some (.val (.bool r)):=by
 obtain⟨⟨xs,ys,rfl,rfl⟩,hf,hg,hr⟩:=arrEq_spec h
 have hr:pureRun P (Op.equalIn 10000 t (.agg xs) (.agg ys))=some r:=hr 9998
 simp only [Bool.and_eq_true,flat] at hf
 have g: ∀op,pureRun P (eqGuard op t x y (.agg xs) (.agg ys))=some ():=fun op=>by
  have hp:pureRun P program=some P:=rfl
  unfold eqGuard
  cases op<;>first|rfl|simp [pureRun_bind,hp,hg,pureRun_pure]
 have e:Op.equal t (.agg xs) (.agg ys)=Op.equalIn 10000 t (.agg xs) (.agg ys):=rfl
 constructor<;>simp [aop0,orFlat,aflat,Op.operands,evs,hx,hy,flatL,hf.1,hf.2,execOp,binOp,pureRun_bind,pureRun_map,g,e,hr,pureRun_pure,flat]
end Go.Am

noncomputable section
namespace Go.Am
open Go
abbrev Ans:=Nat×AR×Mem
def setAll:List (Nat×Option ABlk)→Tr ABlk→Tr ABlk
 | [],T=>T
 |(i,b)::l,T=>(setAll l T).set i b
def pushAll:List ABlk→Nat→Tr ABlk→Tr ABlk
 | [],_,T=>T
 |b::l,n,T=>pushAll l (n+1) (T.set n (some b))
def Mem.mut(M:Mem)(olds:List (Nat×Option ABlk))(news:List ABlk):Mem:=⟨pushAll news M.next (setAll olds M.blks),M.next+news.length,M.hide,olds.map (·.1)++M.log⟩
inductive Qu where
 |bool (b:Bool)
 |load (t:TypeId) (a:Addr) (M:Mem)
 |store (t:TypeId) (a:Addr) (v:Value) (M:Mem)
 |inb (i:Int) (n:Nat)
 |call (f:FuncId) (args:List Value) (M:Mem)
 |callr (f:FuncId) (args:List Value) (M:Mem)
 |append (tys:List TypeId) (s x:Value) (M:Mem)
 |copy (tys:List TypeId) (d x:Value) (M:Mem)
 |slice (t:TypeId) (x:Value) (lo hi mx:Option Value) (M:Mem)
 |conv (src dst:TypeId) (x:Value) (M:Mem)
 |app (tys:List TypeId) (s x:Value) (M:Mem) (old:List Value) (b:ABlk) (new:List Value)
 |calla (f:FuncId) (args:List Value) (M:Mem) (v:AR) (b:ABlk)
 |app2 (k:Nat) (tys:List TypeId) (s x:Value) (M:Mem) (old new:List Value) (b:ABlk)
 |nz (q:Int)
 |stx (t:TypeId) (a:Addr) (v:Value) (M:Mem) (new:List Value) (b:ABlk)
 |blk (id:Nat) (b:Code) (s:St) (e:AExit) (s':St)
 |mks (t:TypeId) (l c:Value) (M:Mem) (v:AR) (b:ABlk)
 |mcall (f:FuncId) (args:List Value) (M:Mem) (v:Value) (olds:List (Nat×Option ABlk)) (news:List ABlk)
 |sidx (s:ByteArray) (i n:Int)
 |scat (s t:ByteArray)
def appIn(P:Program)(tys:List TypeId)(s x:Value)(M:Mem)(old:List Value):Option (ABlk×List Value×(Nat×AR×Mem)):=
 match tys with
 | [sT,_]=>match P.underlying sT,s with
  |some (.slice elem),.slice (some ad) len _=>match P.info? elem,lenV x,M.get ad.block with
   |some e,some n,some b=>match firsts M e.size n x with
    |some new=>some (b,new,(2,.val (.slice (some ⟨M.next,0,none⟩) (len+n) (len+n)),(M.put ad.block none).alloc {cs:=old++new,elem:=b.elem,esz:=b.esz,wf:=b.wf-ad.off,app:=true}))
    |none=>none
   |_,_,_=>none
  |_,_=>none
 |_=>none
def app2In(P:Program)(k:Nat)(tys:List TypeId)(s x:Value)(M:Mem)(old new:List Value):Option (ABlk×(Nat×AR×Mem)):=
 match tys with
 | [sT,_]=>match P.underlying sT,s with
  |some (.slice elem),.slice (some ad) len _=>match P.info? elem,lenV x,M.get ad.block with
   |some e,some n,some b=>match k with
    |6=>some (b,(2,.val (.slice (some ⟨M.next,0,none⟩) (len+n) (len+n)),(M.put ad.block none).alloc {cs:=old++new,elem:=b.elem,esz:=b.esz,wf:=b.wf-ad.off,app:=true}))
    |7=>some (b,(1,.val (.slice (some ⟨M.next,0,none⟩) (len+n) (len+n)),anew e.size elem (old++new) M))
    |8=>some (b,(1,.val s,M))
    |_=>none
   |_,_,_=>none
  |_,_=>none
 |_=>none
theorem app2In_loud{P:Program}{k:Nat}{tys:List TypeId}{s x:Value}{M:Mem}{old new:List Value}{b:ABlk}{r:Nat×AR×Mem}(h:app2In P k tys s x M old new=some (b,r)):r.1≠0:=by
 unfold app2In at h
 split at h<;>try cases h
 split at h<;>try cases h
 split at h<;>try cases h
 split at h<;>try cases h
 all_goals simp
def noMem:Mem:=⟨.nil,0,[],[]⟩
def ansB(b:Bool):Ans:=(0,.val (.bool b),noMem)
def onlySpecs(SP:Specs):CallF:=viaSpecs SP fun _ _ _=>none
def Qu.holds(P:Program)(SP:Specs):Qu→Ans→Prop
 | .bool b,a=>a.2.1= .val (.bool b)
 | .load t x M,a=> ∃v,a.2.1= .val v∧aload P t x M=some v
 | .store t x v M,a=> ∃M',a=(2,.skip,M')∧astore P t x v M=some M'
 | .inb i n,_=>inB i n=true
 | .call f args M,a=>acall (onlySpecs SP) f args M=some a∧a.1≠0
 | .callr f args M,a=>acall (onlySpecs SP) f args M=some (1,a.2.1,M)
 | .append tys s x M,a=>aappend P tys s x M=some a∧a.1≠0
 | .copy tys d x M,a=>acopy P tys d x M=some a∧a.1≠0
 | .slice t x lo hi mx M,a=> ∃v,a.2.1= .val v∧aslice P t x lo hi mx M=some v
 | .conv src dst x M,a=>aconvert P src dst x M=some a∧a.1≠0
 | .app tys s x M old b new,_=> ∀r,appIn P tys s x M old=some (b,new,r)→aappend P tys s x M=some r
 | .calla f args M v b,_=>acall (onlySpecs SP) f args M=some (1,v,M.alloc b)
 | .app2 k tys s x M old new b,_=> ∀r,app2In P k tys s x M old new=some (b,r)→aappend P tys s x M=some r
 | .nz q,_=>q≠0
 | .stx t x v M new b,_=>M.get x.block=some b→astore P t x v M=some (M.put x.block (some {b with cs:=new}))
 | .blk id b s e s',_=> ∃g,SP.blocks id=some g∧g b s=some (e,s')
 | .mks t l c M v b,_=>amakeSlice P t l c M=some (1,v,M.alloc b)
 | .mcall f args M v olds news,_=>acall (onlySpecs SP) f args M=some (2,.val v,M.mut olds news)
 | .sidx s i n,_=> ∃b:UInt8,0≤i∧s[i.toNat]?=some b∧n=b.toNat
 | .scat s t,_=>s.size+t.size≤2^62
def idxAddr(P:Program)(t:TypeId)(x ix:Value):Option (Value×Int×Nat):=
 match P.underlying t,x,ix with
 |some (.slice elem),.slice (some ⟨b,o,none⟩) len _,.int _ i=>
  match P.info? elem with
  |some e=>some (.pointer (some ⟨b,o+i.toNat*e.size,none⟩),i,len)
  |none=>none
 |some (.array len elem),.pointer (some ⟨b,o,none⟩),.int _ i=>
  match P.info? elem with
  |some e=>some (.pointer (some ⟨b,o+i.toNat*e.size,none⟩),i,len)
  |none=>none
 |_,_,_=>none
theorem add_norm(b o n:Nat):(⟨b,o,none⟩:Addr).add n=⟨b,o+n,none⟩:=by
 unfold Addr.add
 split
 ·rename_i h;subst h;rfl
 ·rfl
theorem idxAddr_sound{P:Program}{t:TypeId}{x ix v:Value}{i:Int}{n:Nat}(h:idxAddr P t x ix=some (v,i,n))(hb:inB i n=true):aindexAddr P t x ix=some v:=by
 unfold idxAddr at h
 unfold aindexAddr
 split at h
 ·split at h
  ·rename_i e he
   simp only [Option.some.injEq,Prod.mk.injEq] at h
   obtain⟨rfl,rfl,rfl⟩:=h
   rename_i hu _ _ _
   simp [*,add_norm]
  ·cases h
 ·split at h
  ·rename_i e he
   simp only [Option.some.injEq,Prod.mk.injEq] at h
   obtain⟨rfl,rfl,rfl⟩:=h
   simp [*,add_norm]
  ·cases h
 ·cases h
def hop(P:Program)(GL:List Nat)(o:Oper)(T:Tr Value)(M:Mem)(a:Ans):Option (Ans×Qu):=
 match o.op with
 | .load t x=>match ev GL T x with|some (.pointer (some ad))=>some ((1,a.2.1,M),.load t ad M)|_=>none
 | .store t x y=>match ev GL T x,ev GL T y with
  |some (.pointer (some ad)),some v=>bif Nat.beq a.1 3 then match a.2.1,M.get ad.block with
    | .val (.agg ⟨new⟩),some b=>some ((2,.skip,M.put ad.block (some {b with cs:=new})),.stx t ad v M new b)
    |_,_=>none
   else some (a,.store t ad v M)
  |_,_=>none
 | .indexAddr t x ix=>match ev GL T x,ev GL T ix with
  |some v,some i=>match idxAddr P t v i with
   |some (r,i,n)=>some ((0,.val r,M),.inb i n)
   |none=>none
  |_,_=>none
 | .pick c x y=>match ev GL T c,a.2.1 with
  |some (.bool b),.val (.bool t)=>match ev GL T (bif t then x else y) with
   |some v=>some ((0,.val v,M),.bool b)
   |none=>none
  |_,_=>none
 | .index t x ix=>match ev GL T x,ev GL T ix,P.underlying t,a.2.1 with
  |some (.string s),some (.int _ i),some .string,.val (.int .u8 n)=>some ((0,.val (.int .u8 n),M),.sidx s i n)
  |_,_,_,_=>none
 | .binOp .add _ x y _=>match ev GL T x,ev GL T y with
  |some (.string s),some (.string t)=>some ((0,.val (.string (s++t)),M),.scat s t)
  |_,_=>none
 | .binOp .rem _ x y _=>match ev GL T x,ev GL T y with
  |some (.int k p),some (.int k' q)=>if k=k' then some ((0,.val (.int k (p.tmod q)),M),.nz q) else none
  |_,_=>none
 | .binOp .quo _ x y _=>match ev GL T x,ev GL T y with
  |some (.int k p),some (.int k' q)=>if k=k' then some ((0,.val (.int k (k.wrap (p.tdiv q))),M),.nz q) else none
  |_,_=>none
 | .binOp .shr _ x y _=>match ev GL T x,ev GL T y with
  |some (.int k p),some (.int _ q)=>some ((0,.val (.int k (p.fdiv (2^q.toNat))),M),.inb q k.bits)
  |_,_=>none
 | .binOp .neq t x y _=>match ev GL T x,ev GL T y,a.2.1 with
  |some vx,some vy,.val (.bool r)=>match arrEq P t vx vy with
   |some e=>some ((0,.val (.bool r),M),.bool (!e))
   |none=>none
  |_,_,_=>none
 | .binOp .eql t x y _=>match ev GL T x,ev GL T y,a.2.1 with
  |some vx,some vy,.val (.bool r)=>match arrEq P t vx vy with
   |some e=>some ((0,.val (.bool r),M),.bool e)
   |none=>none
  |_,_,_=>none
 | .slice t x lo hi mx=>match ev GL T x,evs GL T (lo.toList++hi.toList++mx.toList) with
  |some v,some _=>some ((1,a.2.1,M),.slice t v (lo.bind (ev GL T)) (hi.bind (ev GL T)) (mx.bind (ev GL T)) M)
  |_,_=>none
 | .convert src dst x=>match ev GL T x with|some v=>some (a,.conv src dst v M)|none=>none
 | .makeSlice t l c=>match ev GL T l,ev GL T c,a.2.2.blks.get 0 with
  |some l,some c,some b=>some ((1,a.2.1,M.alloc b),.mks t l c M a.2.1 b)
  |_,_,_=>none
 | .call c=>match c.callee with
  | .value f=>match ev GL T f,evs GL T c.args.toList with
   |some fv,some args=>match target fv with
    |some (g,first,captured)=>bif hasBody P g then bif Nat.beq a.1 1 then some ((1,a.2.1,M),.callr g (first++args++captured) M)
     else bif Nat.beq a.1 4 then match a.2.2.blks.get 0 with
      |some b=>some ((1,a.2.1,M.alloc b),.calla g (first++args++captured) M a.2.1 b)
      |none=>none
     else some (a,.call g (first++args++captured) M) else none
    |none=>none
   |_,_=>none
  | .builtin .append=>match evs GL T c.args.toList with
   |some [s,x]=>bif Nat.beq a.1 3 then match a.2.1 with
    | .val (.agg ⟨old⟩)=>match appIn P c.argTypes.toList s x M old with
     |some (b,new,r)=>some (r,.app c.argTypes.toList s x M old b new)
     |none=>none
    |_=>none
    else bif Nat.ble 6 a.1 then match a.2.1 with
    | .val (.tuple ⟨[.agg ⟨old⟩,.agg ⟨new⟩]⟩)=>match app2In P a.1 c.argTypes.toList s x M old new with
     |some (b,r)=>some (r,.app2 a.1 c.argTypes.toList s x M old new b)
     |none=>none
    |_=>none
    else some (a,.append c.argTypes.toList s x M)
   |_=>none
  | .builtin .copy=>match evs GL T c.args.toList with|some [d,x]=>some (a,.copy c.argTypes.toList d x M)|_=>none
  |_=>none
 |_=>none
variable{P:Program}{GL:List Nat}{callF:CallF}{SP:Specs}
theorem aop_of_one{o:Oper}{T:Tr Value}{M:Mem}{r:Ans}(h0:aop0 P GL o T=none)(h1:aop1 P GL callF o T M=some r)(hr:r.1≠0):aop P GL callF o T M=some r:=by
 unfold aop
 rw[h0,h1]
 obtain⟨k,r,M'⟩:=r
 cases k with
 |zero=>exact absurd rfl hr
 |succ k=>rfl
theorem acall_more{cf cf':CallF}(hc: ∀f a M r,cf f a M=some r→cf' f a M=some r){f:FuncId}{a:List Value}{M:Mem}{r:Ans}(h:acall cf f a M=some r):acall cf' f a M=some r:=by
 unfold acall at h⊢
 cases hv:cf f a {M with log:= []} with
 |none=>rw[hv] at h;cases h
 |some r1=>rw[hc _ _ _ _ hv];rw[hv] at h;exact h
def Knows(SP:Specs)(callF:CallF):Prop:= ∀f a M r,onlySpecs SP f a M=some r→callF f a M=some r
theorem knows_via(SP:Specs)(cf:CallF):Knows SP (viaSpecs SP cf):=fun f a M r h=>by
 unfold onlySpecs viaSpecs at h
 unfold viaSpecs
 cases hs:SP.calls f with
 |none=>rw[hs] at h;cases h
 |some g=>rw[hs] at h;exact h
theorem aop0_div{P:Program}{GL:List Nat}{T:Tr Value}{dst:Option Nat}{x y:Operand}{t t' ty:TypeId}{pos:String}{after:Array Edge}{guard:Option (Nat×Bool)}{k:IntKind}{a b:Int}
  (hx:ev GL T x=some (.int k a)) (hy:ev GL T y=some (.int k b)) (hb:b≠0):
  aop0 P GL ⟨dst,.binOp .rem t x y t',ty,pos,after,guard⟩ T=some (.val (.int k (a.tmod b)))∧aop0 P GL ⟨dst,.binOp .quo t x y t',ty,pos,after,guard⟩ T=some (.val (.int k (k.wrap (a.tdiv b)))):=by
 have h: ∀v:Next,pureRun P (pure v)=some v:=fun v=>rfl
 constructor<;>simp [aop0,orFlat,aflat,Op.operands,evs,hx,hy,flatL,flat,execOp,eqGuard,binOp,Op.intDiv,hb,h]
theorem aop0_shr{P:Program}{GL:List Nat}{T:Tr Value}{dst:Option Nat}{x y:Operand}{t t' ty:TypeId}{pos:String}{after:Array Edge}{guard:Option (Nat×Bool)}{k k':IntKind}{a b:Int}
  (hx:ev GL T x=some (.int k a)) (hy:ev GL T y=some (.int k' b)) (hb:inB b k.bits=true):
  aop0 P GL ⟨dst,.binOp .shr t x y t',ty,pos,after,guard⟩ T=some (.val (.int k (a.fdiv (2^b.toNat)))):=by
 have h: ∀v:Next,pureRun P (pure v)=some v:=fun v=>rfl
 obtain⟨h0,h1⟩:=inB_spec hb
 have h2: ¬b<0:=by omega
 have h3:min b.toNat k.bits=b.toNat:=by omega
 simp [aop0,orFlat,aflat,Op.operands,evs,hx,hy,flatL,flat,execOp,eqGuard,binOp,Op.shift,h2,h3,h]
theorem aop0_sidx{P:Program}{GL:List Nat}{T:Tr Value}{dst:Option Nat}{t ty:TypeId}{x ix:Operand}{pos:String}{after:Array Edge}{guard:Option (Nat×Bool)}{s:ByteArray}{k:IntKind}{i:Int}{b:UInt8}
  (hx:ev GL T x=some (.string s)) (hi:ev GL T ix=some (.int k i)) (ht:P.underlying t=some .string) (h0:0≤i) (hs:s[i.toNat]?=some b):
  aop0 P GL ⟨dst,.index t x ix,ty,pos,after,guard⟩ T=some (.val (.int .u8 b.toNat)):=by
 have hrun:pureRun P (execOp (fun x=>(ev GL T x).getD undef) ⟨dst,.index t x ix,ty,pos,after,guard⟩)=some (.value (.int .u8 b.toNat)):=by
  simp [execOp,Instr.index,asIntOf,underlying,program,bind,Sem.bind,pureRun,pure,hx,hi,ht,hs,h0]
 simp [aop0,orFlat,aflat,Op.operands,evs,hx,hi,flatL,flat,hrun]
theorem aop0_scat{P:Program}{GL:List Nat}{T:Tr Value}{dst:Option Nat}{t t' ty:TypeId}{x y:Operand}{pos:String}{after:Array Edge}{guard:Option (Nat×Bool)}{s u:ByteArray}
  (hx:ev GL T x=some (.string s)) (hy:ev GL T y=some (.string u)) (h:s.size+u.size≤2^62):
  aop0 P GL ⟨dst,.binOp .add t x y t',ty,pos,after,guard⟩ T=some (.val (.string (s++u))):=by
 have hp: ∀v:Next,pureRun P (pure v)=some v:=fun v=>rfl
 have hm:IntKind.i64.max=9223372036854775807:=rfl
 have hn: ¬((9223372036854775807:Int)<(s.size:Int)+(u.size:Int)):=by omega
 simp [aop0,orFlat,aflat,Op.operands,evs,hx,hy,flatL,flat,execOp,eqGuard,binOp,Op.stringOp,hm,hn,hp]
theorem hop_sound(hK:Knows SP callF){o:Oper}{T:Tr Value}{M:Mem}{a r:Ans}{q:Qu}(h:hop P GL o T M a=some (r,q))(hq:q.holds P SP a):aop P GL callF o T M=some r:=by
 obtain⟨dst,op,type,pos,after,guard⟩:=o
 unfold hop at h
 split at h<;>rename_i hop<;>simp only at hop
 ·rename_i t x
  subst hop
  split at h
  ·rename_i ad hx
   cases h
   obtain⟨v,ha,hv⟩:=hq
   refine aop_of_one (by simp [aop0]) ?_ (by simp)
   simp [aop1,hx,hv,ha]
  ·cases h
 ·rename_i t x y
  subst hop
  split at h
  ·rename_i ad v hx hy
   cases hn:Nat.beq a.1 3<;>simp only [hn,cond_true,cond_false] at h
   ·cases h
    obtain⟨M',rfl,hv⟩:=hq
    refine aop_of_one (by simp [aop0]) ?_ (by simp)
    simp [aop1,hx,hy,hv]
   ·split at h
    ·rename_i new b _ hb
     cases h
     refine aop_of_one (by simp [aop0]) ?_ (by simp)
     simp [aop1,hx,hy,hq hb]
    ·cases h
  ·cases h
 ·rename_i t x ix
  subst hop
  split at h
  ·rename_i v i hx hi
   split at h
   ·rename_i r i' n' hr
    cases h
    have:=idxAddr_sound hr hq
    unfold aop
    simp only [aop0,hx,hi,this,valO]
   ·cases h
  ·cases h
 ·rename_i c x y
  subst hop
  split at h
  ·rename_i b t hc ha
   split at h
   ·rename_i v hv
    cases h
    have hb:b=t:=by
     have:a.2.1= .val (.bool b):=hq
     rw[ha] at this
     cases this;rfl
    subst hb
    unfold aop
    simp only [aop0,hc,hv,valO]
   ·cases h
  ·cases h
 ·rename_i t x ix
  subst hop
  split at h
  ·rename_i s k i n hx hi ht ha
   cases h
   obtain⟨b,h0,hs,rfl⟩:=hq
   unfold aop
   simp only [aop0_sidx hx hi ht h0 hs]
  ·cases h
 ·rename_i t x y t'
  subst hop
  split at h
  ·rename_i s u hx hy
   cases h
   unfold aop
   simp only [aop0_scat hx hy hq]
  ·cases h
 ·rename_i x y _
  subst hop
  split at h
  ·rename_i k p k' q' hx hy
   split at h
   ·rename_i hk
    subst hk
    cases h
    unfold aop
    simp only [(aop0_div hx hy hq).1]
   ·cases h
  ·cases h
 ·rename_i x y _
  subst hop
  split at h
  ·rename_i k p k' q' hx hy
   split at h
   ·rename_i hk
    subst hk
    cases h
    unfold aop
    simp only [(aop0_div hx hy hq).2]
   ·cases h
  ·cases h
 ·rename_i x y _
  subst hop
  split at h
  ·rename_i k p k' q' hx hy
   cases h
   unfold aop
   simp only [aop0_shr hx hy hq]
  ·cases h
 ·rename_i t x y _
  subst hop
  split at h
  ·rename_i vx vy r hx hy ha
   split at h
   ·rename_i e he
    cases h
    have hb:a.2.1= .val (.bool (!e)):=hq
    rw[ha] at hb
    cases hb
    unfold aop
    simp only [(aop0_arr hx hy he).1]
   ·cases h
  ·cases h
 ·rename_i t x y _
  subst hop
  split at h
  ·rename_i vx vy r hx hy ha
   split at h
   ·rename_i e he
    cases h
    have hb:a.2.1= .val (.bool (e)):=hq
    rw[ha] at hb
    cases hb
    unfold aop
    simp only [(aop0_arr hx hy he).2]
   ·cases h
  ·cases h
 ·rename_i t x lo hi mx
  subst hop
  split at h
  ·rename_i v vs hx hvs
   cases h
   obtain⟨u,ha,hu⟩:=hq
   refine aop_of_one ?_ ?_ (by simp)
   ·have hns: ∀s,v≠ .string s:=fun s hs=>by
     subst hs
     unfold aslice at hu
     cases hmh:(mx.bind (ev GL T)).isSome&&(hi.bind (ev GL T)).isNone<;>simp only [hmh,cond_true,cond_false] at hu
     ·split at hu
      ·rename_i heq;cases heq
      ·rename_i heq;cases heq
      ·rename_i heq;cases heq
      ·cases hu
     ·cases hu
    simp only [aop0,hx]
    cases v<;>first|rfl|exact absurd rfl (hns _)
   ·simp only [aop1,hx,hvs,hu,ha]
  ·cases h
 ·rename_i src dst x
  subst hop
  split at h
  ·rename_i v hx
   cases h
   obtain⟨hu,hk⟩:=hq
   refine aop_of_one ?_ (by simp [aop1,hx,hu]) hk
   simp only [aop0]
   unfold aconvert at hu
   split at hu
   ·rename_i h1 h2;simp [h2]
   ·rename_i h1 h2
    rw[h2]
    simp only [hx]
   ·rename_i h1 h2
    rw[h2]
    simp only [hx]
    simp [aflat,Op.operands,evs,hx,flatL,flat]
   ·rename_i h1 h2
    rw[h2]
    simp only [hx]
    simp [aflat,Op.operands,evs,hx,flatL,flat]
   ·cases hu
  ·cases h
 ·rename_i t l c
  subst hop
  split at h
  ·rename_i lv cv b hl hc _
   cases h
   have hu:amakeSlice P t lv cv M=some (1,a.2.1,M.alloc b):=hq
   refine aop_of_one (by simp [aop0]) ?_ (by simp)
   simp only [aop1,hl,hc,hu]
  ·cases h
 ·rename_i c
  subst hop
  obtain⟨callee,args,argTypes⟩:=c
  simp only at h
  split at h
  ·rename_i f
   split at h
   ·rename_i fv as hf has
    split at h
    ·rename_i g first captured htg
     cases hb:hasBody P g<;>simp only [hb,cond_true,cond_false] at h
     ·cases h
     ·cases hn:Nat.beq a.1 1<;>simp only [hn,cond_true,cond_false] at h
      ·cases hn4:Nat.beq a.1 4<;>simp only [hn4,cond_true,cond_false] at h
       ·cases h
        obtain⟨hu,hk⟩:=hq
        refine aop_of_one (by simp [aop0,hf,htg,hb]) ?_ hk
        simp only [aop1,hf,has,htg,hb,cond_true,acall_more hK hu]
       ·split at h
        ·cases h
         refine aop_of_one (by simp [aop0,hf,htg,hb]) ?_ (by simp)
         simp only [aop1,hf,has,htg,hb,cond_true,acall_more hK hq]
        ·cases h
      ·cases h
       refine aop_of_one (by simp [aop0,hf,htg,hb]) ?_ (by simp)
       simp only [aop1,hf,has,htg,hb,cond_true,acall_more hK hq]
    ·cases h
   ·cases h
  ·split at h
   ·rename_i s x has
    cases hn:Nat.beq a.1 3<;>simp only [hn,cond_true,cond_false] at h
    ·cases hn6:Nat.ble 6 a.1<;>simp only [hn6,cond_true,cond_false] at h
     ·cases h
      obtain⟨hu,hk⟩:=hq
      exact aop_of_one (by simp [aop0]) (by simp [aop1,has,hu]) hk
     ·split at h
      ·rename_i old new _
       split at h
       ·rename_i b r1 hr1
        cases h
        have hu:=hq _ hr1
        exact aop_of_one (by simp [aop0]) (by simp [aop1,has,hu]) (app2In_loud hr1)
       ·cases h
      ·cases h
    ·split at h
     ·rename_i old _
      split at h
      ·rename_i b new r1 hr1
       cases h
       have hu:=hq _ hr1
       refine aop_of_one (by simp [aop0]) (by simp [aop1,has,hu]) ?_
       unfold appIn at hr1
       split at hr1<;>try cases hr1
       split at hr1<;>try cases hr1
       split at hr1<;>try cases hr1
       split at hr1<;>try cases hr1
       simp
      ·cases h
     ·cases h
   ·cases h
  ·split at h
   ·rename_i s x has
    cases h
    obtain⟨hu,hk⟩:=hq
    exact aop_of_one (by simp [aop0]) (by simp [aop1,has,hu]) hk
   ·cases h
  ·cases h
 ·cases h
theorem aseq_more{cf cf':CallF}(hc: ∀f a M r,cf f a M=some r→cf' f a M=some r){o:Oper}{T:Tr Value}{M:Mem}{r:Ans}(h:aop P GL cf o T M=some r):aop P GL cf' o T M=some r:=by
 have hcall: ∀f a M r,acall cf f a M=some r→acall cf' f a M=some r:=fun f a M r h=>acall_more hc h
 unfold aop at h⊢
 split at h
 ·exact h
 ·rename_i h0
  have h1: ∀r,aop1 P GL cf o T M=some r→aop1 P GL cf' o T M=some r:=fun r h=>by
   unfold aop1 at h⊢
   split at h<;>try exact h
   rename_i c _
   split at h<;>try exact h
   ·split at h<;>try exact h
    split at h
    ·rename_i g first captured _
     cases hb:hasBody P g<;>simp only [hb,cond_true,cond_false] at h⊢
     ·exact h
     ·exact hcall _ _ _ _ h
    ·unfold ayield at h⊢
     split at h
     ·exact hcall _ _ _ _ h
     ·cases h
   ·split at h<;>try exact h
    split at h<;>try exact h
    rename_i g _
    cases hb:hasBody P g<;>simp only [hb,cond_true,cond_false] at h⊢
    ·cases h
    ·exact hcall _ _ _ _ h
  cases h2:aop1 P GL cf o T M with
  |none=>rw[h2] at h;cases h
  |some r2=>rw[h1 _ h2];rw[h2] at h;exact h
end Go.Am
end

noncomputable section
namespace Go.Am
open Go
variable{P:Program}{GL:List Nat}{callF:CallF}{SP:Specs}
def calleeAny(P:Program)(GL:List Nat)(o:Oper)(T:Tr Value):Option (FuncId×List Value):=
 match o.op with
 | .call c=>match c.callee with
  | .value f=>match ev GL T f,evs GL T c.args.toList with
   |some fv,some args=>match target fv with
    |some (g,first,captured)=>bif hasBody P g then some (g,first++args++captured) else none
    |none=>none
   |_,_=>none
  | .invoke x name=>match ev GL T x,evs GL T c.args.toList with
   |some (.iface t v),some args=>match amethod P t name with
    |some g=>bif hasBody P g then some (g,v::args) else none
    |none=>none
   |_,_=>none
  |_=>none
 |_=>none
theorem calleeAny_sound{o:Oper}{T:Tr Value}{g:FuncId}{args:List Value}(h:calleeAny P GL o T=some (g,args))(M:Mem):aop1 P GL callF o T M=acall callF g args M:=by
 obtain⟨dst,op,type,pos,after,guard⟩:=o
 unfold calleeAny at h
 split at h<;>rename_i hop<;>simp only at hop
 ·rename_i c
  subst hop
  obtain⟨callee,args',argTypes⟩:=c
  simp only at h
  split at h
  ·rename_i f
   split at h
   ·rename_i fv as hf has
    split at h
    ·rename_i g' first captured htg
     cases hb:hasBody P g'<;>simp only [hb,cond_true,cond_false] at h
     ·cases h
     ·simp only [Option.some.injEq,Prod.mk.injEq] at h
      obtain⟨rfl,rfl⟩:=h
      simp only [aop1,hf,has,htg,hb,cond_true]
    ·cases h
   ·cases h
  ·rename_i x name
   split at h
   ·rename_i t v as hf has
    split at h
    ·rename_i g' hg'
     cases hb:hasBody P g'<;>simp only [hb,cond_true,cond_false] at h
     ·cases h
     ·simp only [Option.some.injEq,Prod.mk.injEq] at h
      obtain⟨rfl,rfl⟩:=h
      simp only [aop1,hf,has,hg',hb,cond_true]
    ·cases h
   ·cases h
  ·cases h
 ·cases h
end Go.Am
end
