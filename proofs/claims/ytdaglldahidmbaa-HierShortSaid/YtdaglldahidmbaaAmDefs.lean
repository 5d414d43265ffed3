/-
  Package hier: each of its laws for every argument; no conditions. The last text states which.
-/
import Derived.WalkKit
import Derived.Maps.Keyed
set_option linter.unusedVariables false
set_option linter.unusedSimpArgs false
namespace Go.Am
open Go
noncomputable section
inductive Tr(α:Type) where
 |nil
 |node (v:Option α) (l r:Tr α)
def Tr.get{α:Type}(t:Tr α):Nat->Option α:=
 Tr.rec (motive:=fun _=>Nat->Option α) (fun _=>none) (fun v _ _ ihl ihr n=>Nat.rec (motive:=fun _=>Option α) v (fun m _=>Bool.rec (ihr (m/2)) (ihl (m/2)) (Nat.beq (m%2) 0)) n) t
def Tr.val{α:Type}:Tr α->Option α
 | .nil=>none
 | .node v _ _=>v
def Tr.left{α:Type}:Tr α->Tr α
 | .nil=> .nil
 | .node _ l _=>l
def Tr.right{α:Type}:Tr α->Tr α
 | .nil=> .nil
 | .node _ _ r=>r
def Tr.setF{α:Type}(a:Option α)(f:Nat):Tr α->Nat->Tr α:=
 Nat.rec (motive:=fun _=>Tr α->Nat->Tr α) (fun t _=>t) (fun _ ih t n=>
  Nat.rec (motive:=fun _=>Tr α) (Tr.rec (motive:=fun _=>Tr α) (.node a .nil .nil) (fun _ l r _ _=> .node a l r) t)
   (fun m _=>Bool.rec (Tr.rec (motive:=fun _=>Tr α) (.node none .nil (ih .nil (m/2))) (fun v l r _ _=> .node v l (ih r (m/2))) t)
    (Tr.rec (motive:=fun _=>Tr α) (.node none (ih .nil (m/2)) .nil) (fun v l r _ _=> .node v (ih l (m/2)) r) t) (Nat.beq (m%2) 0)) n) f
def Tr.set{α:Type}(t:Tr α)(n:Nat)(a:Option α):Tr α:=Tr.setF a (n+1) t n
structure aQ where
 cs:List Value
 elem:TypeId
 esz:Nat
 wf:Nat
 app:Bool
structure aA where
 blks:Tr aQ
 next:Nat
 hide:List (Nat×Nat)
 log:List Nat
def aY:List (Nat×Nat)->Nat->Bool
 | [],_=>false
 |(a,b)::l,n=>(Nat.ble a n&&Nat.blt n b)||aY l n
def oX:Nat:=97
def dJ(b:aQ):Bool:=b.app&&Nat.beq b.esz oX
def On(b:Option aQ):Option aQ:=match b with|some b=>bif dJ b then none else some b|none=>none
def mapO(b:Option aQ):Option aQ:=match b with|some b=>bif dJ b then some b else none|none=>none
def aA.getA(M:aA)(id:Nat):Option aQ:=bif Nat.blt id M.next&& !aY M.hide id then M.blks.get id else none
def aA.get(M:aA)(id:Nat):Option aQ:=On (M.getA id)
def aA.getM(M:aA)(id:Nat):Option aQ:=mapO (M.getA id)
def aA.put(M:aA)(id:Nat)(b:Option aQ):aA:={M with blks:=M.blks.set id b,log:=id::M.log}
def aA.alloc(M:aA)(b:aQ):aA:={M with blks:=M.blks.set M.next (some b),next:=M.next+1}
def leaf:Value->Bool
 | .bool _| .int _ _| .float _ _| .complex _ _ _| .string _| .pointer none| .slice none 0 0| .map none| .chan none| .nilFunc| .nilIface=>true
 |_=>false
def mW:Fn->Bool
 | .yield _=>true
 |_=>false
mutual
def flat:Value->Bool
 | .bool _| .int _ _| .float _ _| .complex _ _ _| .string _| .nilFunc| .nilIface=>true
 | .pointer a=>a.isNone
 | .slice a l c=>a.isNone&&Nat.beq l 0&&Nat.beq c 0
 | .map r=>r.isNone
 | .chan r=>r.isNone
 | .func fn first captured=> !mW fn&&(nP first&&nP captured)
 | .iface _ v=>flat v
 | .agg cs=>nP cs
 | .tuple vs=>nP vs
def nP:Array Value->Bool
 |⟨l⟩=>dD l
def dD:List Value->Bool
 | []=>true
 |v::l=>flat v&&dD l
end
def isCell:Value->Bool
 | .agg _| .tuple _=>false
 |_=>true
structure St where
 T:Tr Value
 n:Nat
 M:aA
def ev(GL:List Nat)(T:Tr Value):Operand->Option Value
 | .tmp t=>T.get t
 | .const v=>bif flat v then some v else none
 | .global g=>bif GL.any (Nat.beq g) then some (.pointer (some ⟨g,0,none⟩)) else none
 | .func f=>some (.func (.func f) #[] #[])
def pM(GL:List Nat)(T:Tr Value):List Operand->Option (List Value)
 | []=>some []
 |x::l=>match ev GL T x,pM GL T l with
  |some v,some vs=>some (v::vs)
  |_,_=>none
def cA{α:Type}(P:Program):Sem α->Option α
 | .pure a=>some a
 | .program k=>cA P (k P)
 | .mark _ k=>cA P k
 |_=>none
inductive AR where
 |val (v:Value)
 |skip
abbrev Et:=Option (Nat×AR×aA)
def dR:TypeDesc->Bool
 | .struct _| .array _ _=>true
 |_=>false
def cV:Nat->List Value->Option (List Value)
 |0,_=>some []
 |n+1,v::l=>match cV n l with|some r=>some (v::r)|none=>none
 |_+1,[]=>none
def bI(P:Program)(t:TypeId)(a:Addr)(M:aA):Option Value:=
 match P.underlying t,M.get a.block with
 |some d,some b=>
  bif dR d then
   match P.info? t with
   |some i=>match cV i.size (b.cs.drop a.off) with
    |some l=>some (.agg l.toArray)
    |none=>none
   |none=>none
  else b.cs[a.off]?
 |_,_=>none
def splice:List Value->Nat->List Value->List Value
 |cs,_,[]=>cs
 | [],_,_=> []
 |_::cs,0,v::l=>v::splice cs 0 l
 |c::cs,n+1,l=>c::splice cs n l
def eF(P:Program)(t:TypeId)(a:Addr)(v:Value)(M:aA):Option aA:=
 match M.get a.block,P.info? t with
 |some b,some i=>
  bif Nat.beq v.cells.toList.length i.size&&v.cells.toList.all isCell&&Nat.ble b.wf a.off&&Nat.ble (a.off+v.cells.toList.length) b.cs.length then
   some (M.put a.block (some {b with cs:=splice b.cs a.off v.cells.toList}))
  else none
 |_,_=>none
def Ul(P:Program)(t:TypeId):Option Nat:=match P.info? t with|some i=>some i.size|none=>none
def Ly(P:Program):Nat->TypeId->Bool
 |0,_=>false
 |n+1,t=>match P.underlying t with
  |some (.struct fields)=>match fields[0]? with
   |some f=>match P.underlying f.type with
    |some (.pointer e)=>Nat.beq e t
    |_=>Ly P n f.type
   |none=>false
  |_=>false
def Xt(P:Program)(elem:TypeId):Option Nat:=
 bif Ly P 3 elem then some 0 else
 match P.underlying elem with
 |some (.array _ e)=>Ul P e
 |some _=>Ul P elem
 |none=>none
def nW(z:Nat)(elem:TypeId)(cs:List Value)(M:aA):aA:=M.alloc {cs,elem,esz:=z,wf:=0,app:=true}
def made(v:Value)(M:aA):Et:=some (1,.val v,M)
def cN(P:Program)(elem:TypeId)(M:aA):Et:=
 match P.info? elem,Xt P elem with
 |some i,some z=>match i.zero with
  |some v=>bif flat v&&v.cells.toList.all isCell then made (.pointer (some ⟨M.next,0,none⟩)) (nW z elem v.cells.toList M) else none
  |none=>none
 |_,_=>none
def eL(P:Program)(elem:TypeId)(v:Value)(M:aA):Et:=
 match Xt P elem with
 |some z=>bif v.cells.toList.all isCell then made (.pointer (some ⟨M.next,0,none⟩)) (nW z elem v.cells.toList M) else none
 |none=>none
def vF(P:Program)(s:TypeId)(x:Value)(field:Nat):Option Value:=
 match P.underlying s,x with
 |some (.struct fields),.pointer (some a)=>
  match fields[field]? with
  |some f=>match P.info? f.type with
   |some i=>bif Nat.beq i.size 0 then none else some (.pointer (some (a.add f.offset)))
   |none=>none
  |none=>none
 |_,_=>none
def apart(P:Program)(t:TypeId)(cs:List Value)(off:Nat):Option Value:=
 match P.underlying t with
 |some d=>
  bif dR d then
   match P.info? t with
   |some i=>some (.agg ((cs.drop off).take i.size).toArray)
   |none=>none
  else cs[off]?
 |none=>none
def Mt(P:Program)(s:TypeId)(x:Value)(field:Nat):Option Value:=
 match P.underlying s,x with
 |some (.struct fields),.agg cs=>
  match fields[field]? with
  |some f=>apart P f.type cs.toList f.offset
  |none=>none
 |_,_=>none
def Ns(i:Int)(n:Nat):Bool:=decide (0<=i)&&decide (i<(n:Int))
def oL(P:Program)(t:TypeId)(x ix:Value):Option Value:=
 match P.underlying t,x,ix with
 |some (.slice elem),.slice (some a) len _,.int _ i=>
  match P.info? elem with
  |some e=>bif Ns i len then some (.pointer (some (a.add (i.toNat*e.size)))) else none
  |none=>none
 |some (.array len elem),.pointer (some a),.int _ i=>
  match P.info? elem with
  |some e=>bif Ns i len then some (.pointer (some (a.add (i.toNat*e.size)))) else none
  |none=>none
 |_,_,_=>none
def Mu(P:Program)(t:TypeId)(x ix:Value):Option Value:=
 match P.underlying t,x,ix with
 |some (.array len elem),.agg cs,.int _ i=>
  match P.info? elem with
  |some e=>bif Ns i len then apart P elem cs.toList (i.toNat*e.size) else none
  |none=>none
 |_,_,_=>none
def lR(x:Option Value)(most dflt:Nat):Option Nat:=
 match x with
 |none=>some dflt
 |some (.int _ i)=>bif decide (0<=i)&&decide (i<=(most:Int)) then some i.toNat else none
 |_=>none
def rL(P:Program)(t:TypeId)(x:Value)(lo hi mx:Option Value)(M:aA):Option Value:=
 bif mx.isSome&&hi.isNone then none else
 match P.underlying t,x with
 |some (.slice elem),.slice (some a) len cap=>
  match P.info? elem,M.get a.block,lR mx len len with
  |some e,some b,some m=>match lR hi m len with
   |some h=>match lR lo h 0 with
    |some l=>bif Nat.beq b.esz e.size&&a.spot.isNone then some (.slice (some (a.add (l*e.size))) (h-l) (bif mx.isSome then m-l+1 else bif Nat.beq h len&& !(Nat.beq cap len) then cap-l else h-l)) else none
    |none=>none
   |none=>none
  |_,_,_=>none
 |some (.slice elem),.slice none 0 0=>
  match P.info? elem,mx,lR hi 0 0 with
  |some _,none,some h=>match lR lo h 0 with
   |some _=>some (.slice none 0 0)
   |none=>none
  |_,_,_=>none
 |some (.array n elem),.pointer (some a)=>
  match P.info? elem,M.get a.block,lR mx n n with
  |some e,some b,some m=>match lR hi m n with
   |some h=>match lR lo h 0 with
    |some l=>bif Nat.beq b.esz e.size&&Nat.ble (a.off+n*e.size) b.cs.length then some (.slice (some (a.add (l*e.size))) (h-l) (bif Nat.beq h m then h-l+1 else h-l)) else none
    |none=>none
   |none=>none
  |_,_,_=>none
 |_,_=>none
def jZ:Nat->List Value->List Value
 |0,_=> []
 |n+1,z=>z++jZ n z
def bU(P:Program)(t:TypeId)(len cap:Value)(M:aA):Et:=
 match P.underlying t,len,cap with
 |some (.slice elem),.int _ l,.int _ c=>
  match P.info? elem with
  |some e=>match e.zero with
   |some z=>
    bif flat z&&z.cells.toList.all isCell&&Nat.beq z.cells.toList.length e.size&& !Nat.beq e.size 0&&decide (0<=l)&&decide (l<=c)&&decide (c<2^37)&&Nat.ble e.bytes 1024 then
     made (.slice (some ⟨M.next,0,none⟩) l.toNat (bif decide (l=c) then l.toNat+1 else l.toNat)) (nW e.size elem (jZ l.toNat z.cells.toList) M)
    else none
   |none=>none
  |none=>none
 |_,_,_=>none
def uO(place:Nat->Option (Nat×Nat))(cells:List Value):List (Nat×Value)->Option (List Value)
 | []=>some cells
 |(i,v)::rest=>
  match place i with
  |none=>none
  |some (off,size)=>
   bif Nat.beq v.cells.toList.length size&&Nat.ble (off+v.cells.toList.length) cells.length then uO place (splice cells off v.cells.toList) rest
   else none
def mV(GL:List Nat)(T:Tr Value):List (Nat×Operand)->Option (List (Nat×Value))
 | []=>some []
 |(i,x)::l=>match ev GL T x,mV GL T l with
  |some v,some vs=>some ((i,v)::vs)
  |_,_=>none
def xV(P:Program):List Field->Option (List (Nat×Nat))
 | []=>some []
 |f::l=>match P.info? f.type,xV P l with
  |some i,some r=>some ((f.offset,i.size)::r)
  |_,_=>none
def Mo(P:Program)(t:TypeId)(parts:List (Nat×Value)):Option Value:=
 match P.info? t,P.underlying t with
 |some i,some d=>match i.zero with
  |some z=>bif flat z then
    match d with
    | .struct fields=>match xV P fields.toList with
     |some pl=>match uO (pl[·]?) z.cells.toList parts with
      |some cs=>some (.agg cs.toArray)
      |none=>none
     |none=>none
    | .array _ elem=>match P.info? elem with
     |some e=>match uO (fun i=>some (i*e.size,e.size)) z.cells.toList parts with
      |some cs=>some (.agg cs.toArray)
      |none=>none
     |none=>none
    |_=>none
   else none
  |none=>none
 |_,_=>none
def bH(P:Program)(t:TypeId)(len:Nat)(parts:List (Nat×Value))(M:aA):Et:=
 match P.underlying t with
 |some (.slice elem)=>match P.info? elem with
  |some e=>match e.zero with
   |some z=>
    bif flat z&&z.cells.toList.all isCell&&Nat.beq z.cells.toList.length e.size&& !Nat.beq e.size 0&&Nat.ble (len*e.size) (2^24) then
     match uO (fun i=>some (i*e.size,e.size)) (jZ len z.cells.toList) parts with
     |some cs=>bif cs.all isCell then made (.slice (some ⟨M.next,0,none⟩) len (len+1)) (nW e.size elem cs M) else none
     |none=>none
    else none
   |none=>none
  |none=>none
 |_=>none
def sW(P:Program)(x:Value)(asserted:TypeId)(commaOk:Bool):Option Value:=
 match P.underlying asserted,x with
 |some (.interface _),_=>none
 |some _,.iface t v=>
  bif Nat.beq t asserted then some (bif commaOk then .tuple #[v,.bool true] else v)
  else bif commaOk then match P.info? asserted with
   |some i=>match i.zero with
    |some z=>bif flat z then some (.tuple #[z,.bool false]) else none
    |none=>none
   |none=>none
  else none
 |some _,.nilIface=>
  bif commaOk then match P.info? asserted with
   |some i=>match i.zero with
    |some z=>bif flat z then some (.tuple #[z,.bool false]) else none
    |none=>none
   |none=>none
  else none
 |_,_=>none
def Db:TypeDesc->Bool
 | .interface _=>true
 |_=>false
def Vb(P:Program)(t:TypeId)(x y:Value):Option Bool:=
 match P.underlying t,x,y with
 |some (.pointer _),.pointer none,.pointer b=>some b.isNone
 |some (.pointer _),.pointer (some _),.pointer none=>some false
 |some (.pointer e),.pointer (some a),.pointer (some b)=>
  match P.info? e with
  |some i=>bif Nat.beq i.size 0 then none else bif Nat.beq a.block b.block then some (Nat.beq a.off b.off) else none
  |none=>none
 |some (.interface _),.nilIface,.iface _ _=>some false
 |some (.interface _),.iface _ _,.nilIface=>some false
 |some (.interface _),.iface s _,.iface u _=>bif Nat.beq s u then none else some false
 |some (.slice _),.slice none _ _,.slice b _ _=>some b.isNone
 |some (.slice _),.slice (some _) _ _,.slice none _ _=>some false
 |some (.func _ _ _),.nilFunc,.func _ _ _=>some false
 |some (.func _ _ _),.func _ _ _,.nilFunc=>some false
 |_,_,_=>none
def range(cs:List Value)(off n:Nat):Option (List Value):=cV n (cs.drop off)
def jA(s:ByteArray)(n:Nat):List Value:=(s.data.toList.take n).map fun b=>Value.int .u8 b.toNat
def jG(M:aA)(size n:Nat):Value->Option (List Value)
 | .slice (some a) _ _=>match M.get a.block with
  |some b=>range b.cs a.off (n*size)
  |none=>bif Nat.beq n 0 then some [] else none
 | .slice none _ _=>bif Nat.beq n 0 then some [] else none
 | .string s=>some (jA s n)
 |_=>none
def nZ:Value->Option Nat
 | .slice _ n _=>some n
 | .string s=>some s.size
 |_=>none
def Jb(e:TypeInfo):Bool:=match e.zero with|some z=>Nat.beq z.cells.toList.length e.size|none=>false
def uX(e:TypeInfo)(n:Nat):Bool:= !Nat.beq e.size 0&&Nat.ble n (2^40)&&Nat.ble (n*e.bytes) (2^40)&&Nat.ble e.bytes (2^40)&&Jb e
def kL:TypeDesc->Bool
 | .int _=>true
 |_=>false
def Ad(P:Program)(elem:TypeId):Bool:=
 match P.underlying elem with
 |some (.array n _)=>Nat.beq n 2
 |some (.struct fields)=>match fields.toList with
  | [a,b,c]=>Nat.beq a.type b.type&&Nat.beq b.type c.type
  |_=>false
 |_=>false
def dF(P:Program)(argTypes:List TypeId)(s x:Value)(M:aA):Et:=
 match argTypes with
 | [sT,xT]=>match P.underlying sT,P.underlying xT with
  |some (.slice elem),some xd=>match P.info? elem,nZ x with
   |some e,some n=>
    match kL xd,jG M e.size n x,s with
    |false,some new,.slice none 0 0=>
     bif !uX e n|| !(new.all isCell)|| !(Nat.beq new.length (n*e.size)) then none
     else bif Nat.beq n 0 then some (1,.val (.slice none 0 0),M)
     else made (.slice (some ⟨M.next,0,none⟩) n n) (nW e.size elem new M)
    |false,some new,.slice (some a) len cap=>
     match M.get a.block with
     |some b=>match range b.cs a.off (len*e.size) with
      |some old=>
       bif !uX e (len+n)|| !(new.all isCell)|| !(Nat.beq new.length (n*e.size))|| !(Nat.beq b.esz e.size)|| !(Nat.beq b.elem elem)|| !a.spot.isNone then none
       else bif Nat.beq n 0 then some (1,.val s,M)
       else bif !(Nat.beq cap len) then
        bif Nat.ble cap (len+n) then made (.slice (some ⟨M.next,0,none⟩) (len+n) (len+n)) (nW e.size elem (old++new) M)
        else bif Nat.ble b.wf (a.off+len*e.size)&&Nat.ble (a.off+(len+n)*e.size) b.cs.length then
         some (2,.val (.slice (some a) (len+n) cap),M.put a.block (some {b with cs:=splice b.cs (a.off+len*e.size) new}))
        else none
       else bif b.app&&Nat.ble b.wf (a.off+len*e.size) then
        bif Ad P elem&& !(Nat.beq (len*e.size) 0) then
         some (2,.val (.slice (some ⟨M.next,0,none⟩) (len+n) (len+n)),(M.put a.block (some {b with cs:=b.cs.take (a.off+len*e.size),wf:=a.off+len*e.size,app:=false})).alloc {cs:=old++new,elem:=b.elem,esz:=b.esz,wf:=len*e.size,app:=true})
        else bif Nat.beq b.wf 0||Nat.blt a.off b.wf then
        some (2,.val (.slice (some ⟨M.next,0,none⟩) (len+n) (len+n)),(M.put a.block none).alloc {cs:=old++new,elem:=b.elem,esz:=b.esz,wf:=b.wf-a.off,app:=true})
       else none
       else none
      |none=>none
     |none=>none
    |_,_,_=>none
   |_,_=>none
  |_,_=>none
 |_=>none
def Jj(P:Program)(argTypes:List TypeId)(d x:Value)(M:aA):Et:=
 match argTypes with
 |dT::_=>match P.underlying dT with
  |some (.slice elem)=>match P.info? elem,nZ x,d with
   |some _,some _,.slice none 0 0=>some (1,.val (.int .i64 0),M)
   |some e,some xl,.slice (some a) dl _=>
    match jG M e.size (Nat.min xl dl) x,M.get a.block with
    |some l,some b=>
     bif !(l.all isCell)|| !(Nat.ble b.wf a.off)|| !(Nat.ble (a.off+l.length) b.cs.length)|| !a.spot.isNone then none
     else some (2,.val (.int .i64 (Nat.min xl dl)),M.put a.block (some {b with cs:=splice b.cs a.off l}))
    |_,_=>none
   |_,_,_=>none
  |_=>none
 |_=>none
def Hl(P:Program)(argTypes:List TypeId)(x:Value)(M:aA):Et:=
 match argTypes,x with
 |t::_,.slice (some a) n _=>match P.underlying t with
  |some (.slice elem)=>match(P.info? elem).bind (·.zero),M.get a.block with
   |some z,some b=>
    bif flat z&&z.cells.toList.all isCell&& !Nat.beq (n*z.cells.toList.length) 0&&Nat.ble b.wf a.off&&Nat.ble (a.off+n*z.cells.toList.length) b.cs.length&&a.spot.isNone then
     some (2,.val (.tuple #[]),M.put a.block (some {b with cs:=splice b.cs a.off (jZ n z.cells.toList)}))
    else none
   |_,_=>none
  |_=>none
 |_,_=>none
def oS(P:Program):Nat->TypeId->TypeId->Bool
 |0,_,_=>false
 |n+1,e,u=> !(Nat.beq (P.cellsOf e) 0)&&(Nat.beq e u||match P.underlying e with
  |some (.struct fields)=>match fields[0]? with
   |some f=> !(P.stoodInHeld e)&&Nat.beq f.offset 0&&oS P n f.type u
   |none=>false
  |_=>false)
def gX:List Value->Option (List UInt8)
 | []=>some []
 | .int .u8 n::l=>match gX l with
  |some r=>some (UInt8.ofNat n.toNat::r)
  |none=>none
 |_=>none
def qR(P:Program)(src dst:TypeId)(x:Value)(M:aA):Et:=
 match P.underlying src,P.underlying dst,x with
 |some .string,some (.slice e),.string s=>
  match P.underlying e,P.info? e with
  |some (.int .u8),some i=>bif Nat.beq i.size 1&&Nat.ble s.size (2^40) then made (.slice (some ⟨M.next,0,none⟩) s.size s.size) (nW i.size e (jA s s.size) M) else none
  |_,_=>none
 |some (.slice e),some .string,.slice (some a) len _=>
  match P.underlying e,M.get a.block with
  |some (.int .u8),some b=>match(bif a.spot.isNone then range b.cs a.off len else none) with
   |some l=>match gX l with
    |some bs=>some (1,.val (.string ⟨bs.toArray⟩),M)
    |none=>none
   |none=>none
  |_,_=>none
 |some (.pointer t),some .unsafePointer,.pointer (some a)=>
  match P.info? t,M.get a.block with
  |some j,some b=>bif Nat.beq j.size 0|| !(Nat.blt a.off b.cs.length) then none else some (1,.val (.pointer (some a)),M)
  |_,_=>none
 |some .unsafePointer,some (.pointer u),.pointer (some a)=>
  match P.info? u,M.get a.block with
  |some j,some b=>bif Nat.beq j.size 0|| !(Nat.beq b.esz 0)|| !(Nat.beq a.off 0)|| !(Nat.ble (P.cellsOf b.elem) b.cs.length)|| !(oS P 3 b.elem u) then none else some (1,.val (.pointer (some a)),M)
  |_,_=>none
 |_,_,_=>none
def Hq(P:Program)(argTypes:List TypeId)(x y:Value)(M:aA):Et:=
 match argTypes,x,y with
 |pt::_,.pointer (some a),.int .i64 n=>match P.underlying pt,M.get a.block with
  |some (.pointer e),some b=>match range b.cs a.off n.toNat with
   |some l=>match gX l with
    |some bs=>bif decide (0<n)&&decide (n<=1099511627776)&&Nat.beq b.elem e&&b.app&&Nat.beq (P.cellsOf e) 1 then
      some (2,.val (.string ⟨bs.toArray⟩),M.put a.block (some {b with wf:=b.cs.length,app:=false}))
     else none
    |none=>none
   |none=>none
  |_,_=>none
 |_,_,_=>none
def Mv(P:Program)(g:FuncId)(args:List Value)(M:aA):Et:=
 match P.funcs[g]?,args with
 |some fn,[x]=>bif fn.name== "internal/abi.NoEscape" &&fn.origin== "" &&fn.body.isNone then some (1,.val x,M) else none
 |_,_=>none
def Nt(P:Program)(k:TypeId):Bool:=
 match P.underlying k with
 |some (.array _ _)=>P.keyTypeAt 5 k&&P.tiled 5 k
 |some (.struct _)=>P.keyTypeAt 5 k&&P.tiled 5 k
 |some (.int _)|some .string|some .bool=>true
 |_=>false
def Hs:Value->Value->Bool
 | .bool a,.bool b=>a==b
 | .int k a,.int k' b=>decide (k=k')&&decide (a=b)
 | .string a,.string b=>decide (a=b)
 |_,_=>false
def tW:List Value->List Value->Bool
 | [],[]=>true
 |a::l,b::m=>Hs a b&&tW l m
 |_,_=>false
def oW:Value->Value->Bool
 | .agg ⟨x⟩,.agg ⟨y⟩=>tW x y
 |a,b=>Hs a b
def Gj(P:Program)(k:TypeId)(key:Value):Bool:=Nt P k&&(keyOf P k key).isSome&&flat key&&oW key key
def xJ(key:Value):List Value->Option Value
 |k::v::l=>bif oW key k then some v else xJ key l
 |_=>none
def Ii(key val:Value):List Value->List Value
 |k::v::l=>bif oW key k then k::val::l else k::v::Ii key val l
 |_=> [key,val]
def Es(P:Program)(t:TypeId):Option Value:=
 match P.info? t with
 |some i=>match i.zero with
  |some z=>bif flat z then some z else none
  |none=>none
 |none=>none
def Bh(P:Program)(t:TypeId)(x key:Value)(ok:Bool)(M:aA):Et:=
 match P.underlying t,x with
 |some (.map k e),.map (some r)=>match M.getM r,Es P e with
  |some b,some z=>bif Nat.beq b.elem k&&Gj P k key then
    match xJ key b.cs with
    |some v=>some (1,.val (bif ok then .tuple #[v,.bool true] else v),M)
    |none=>some (1,.val (bif ok then .tuple #[z,.bool false] else z),M)
   else none
  |_,_=>none
 |_,_=>none
def rJ(P:Program)(t:TypeId)(x key v:Value)(M:aA):Et:=
 match P.underlying t,x with
 |some (.map k _),.map (some r)=>match M.getM r with
  |some b=>bif Nat.beq b.elem k&&Gj P k key then some (2,.skip,M.put r (some {b with cs:=Ii key v b.cs})) else none
  |none=>none
 |_,_=>none
def Sw:Option Value->Bool
 |none=>true
 |some (.int _ _)=>true
 |_=>false
def wU(P:Program)(t:TypeId)(hint:Option Value)(M:aA):Et:=
 match P.underlying t with
 |some (.map k _)=>bif Sw hint then some (1,.val (.map (some M.next)),M.alloc ⟨[],k,oX,0,true⟩) else none
 |_=>none
abbrev cR:=FuncId->List Value->aA->Option (Value×aA)
def kH(n:Nat):List Nat->List Nat
 | []=> []
 |x::l=>bif Nat.blt x n then x::kH n l else kH n l
def kP(callF:cR)(f:FuncId)(args:List Value)(M:aA):Et:=
 match callF f args {M with log:= []} with
 |some (v,M')=>
  match kH M.next M'.log with
  | []=>some (1,.val v,{M' with log:=M.log,hide:=M.hide})
  |l=>some (2,.val v,{M' with log:=l++M.log,hide:=M.hide})
 |none=>none
def YB:Nat:=1000000000
def Hr(callF:cR)(fv:Value)(args:List Value)(M:aA):Et:=
 match fv with
 | .func (.yield r) ⟨[]⟩ ⟨[]⟩=>kP callF (YB+r) args M
 |_=>none
def eY(P:Program)(f:FuncId):Bool:=
 match P.funcs[f]? with
 |some fn=>fn.body.isSome
 |none=>false
def jK(P:Program)(GL:List Nat)(o:Oper)(T:Tr Value):Option AR:=
 match pM GL T o.op.operands.toList with
 |some vs=>
  bif dD vs then
   match cA P (execOp (fun x=>(ev GL T x).getD undef) o) with
   |some (.value v)=>bif flat v then some (.val v) else none
   |_=>none
  else none
 |none=>none
def zP:Value->Option (FuncId×List Value×List Value)
 | .func (.func f) first captured=>some (f,first.toList,captured.toList)
 |_=>none
def Ia:TypeDesc->Bool
 | .pointer _=>true
 |_=>false
def Bi(P:Program)(t:TypeId)(name:String):Option FuncId:=
 match P.info? t with
 |some i=>match i.methods.find? (·.name==name) with
  |some m=>match m.path.toList with
   | []=>match m.func,P.underlying t with
    |some (f,b),some d=>bif b==Ia d then some f else none
    |_,_=>none
   |_=>none
  |none=>none
 |none=>none
def yA(v:Option Value):Option AR:=match v with|some v=>some (.val v)|none=>none
def jY(P:Program)(GL:List Nat)(o:Oper)(T:Tr Value)(b:Option Value):Option AR:=
 match jK P GL o T with
 |some r=>some r
 |none=>yA b
def fC(P:Program)(GL:List Nat)(o:Oper)(T:Tr Value):Option AR:=
 match o.op with
 | .move x| .assign x=>yA (ev GL T x)
 | .pick c a b=>match ev GL T c with
  |some (.bool t)=>yA (ev GL T (bif t then a else b))
  |_=>none
 | .build t parts=>match mV GL T parts.toList with|some ps=>yA (Mo P t ps)|none=>none
 | .nilCheck x=>match ev GL T x with
  |some (.pointer (some a))=>some (.val (.pointer (some a)))
  |some (.iface t v)=>some (.val (.iface t v))
  |some (.func (.func f) x y)=>some (.val (.func (.func f) x y))
  |_=>none
 | .binOp op t x y _=>jY P GL o T (match op,ev GL T x,ev GL T y with
   | .eql,some a,some b=>match Vb P t a b with|some r=>some (.bool r)|none=>none
   | .neq,some a,some b=>match Vb P t a b with|some r=>some (.bool (!r))|none=>none
   |_,_,_=>none)
 | .makeInterface xT x=>match P.underlying xT,ev GL T x with
  |some d,some v=>bif Db d then none else some (.val (.iface xT v))
  |_,_=>none
 | .makeFunc fn first captured=>match pM GL T first.toList,pM GL T captured.toList with
  |some a,some b=>bif mW fn then none else some (.val (.func fn a.toArray b.toArray))
  |_,_=>none
 | .fieldAddr s x f=>match ev GL T x with|some v=>yA (vF P s v f)|none=>none
 | .field s x f=>match ev GL T x with|some v=>yA (Mt P s v f)|none=>none
 | .indexAddr t x ix=>match ev GL T x,ev GL T ix with|some v,some i=>yA (oL P t v i)|_,_=>none
 | .index t x ix=>jY P GL o T (match ev GL T x,ev GL T ix with|some v,some i=>Mu P t v i|_,_=>none)
 | .typeAssert x _ asserted ok=>match ev GL T x with|some v=>yA (sW P v asserted ok)|none=>none
 | .extract x i=>match ev GL T x with|some (.tuple vs)=>yA vs[i]?|_=>none
 | .call c=>match c.callee with
  | .builtin .len=>jY P GL o T (match pM GL T c.args.toList,(c.argTypes[0]?).bind (P.underlying ·) with
    |some [.slice (some _) n _],some (.slice _)=>some (.int .i64 n)
    |_,_=>none)
  | .value f=>match ev GL T f with
   |some fv=>match zP fv with
    |some (g,_,_)=>bif eY P g then none else jK P GL o T
    |none=>none
   |none=>none
  | .builtin .append=>none
  | .builtin .copy=>none
  | .builtin .clear=>none
  | .builtin .unsafeSliceData=>jY P GL o T (match pM GL T c.args.toList with
    |some [.slice (some a) n _]=>bif Nat.beq n 0 then none else some (.pointer (some a))
    |_=>none)
  |_=>jK P GL o T
 | .slice _ x _ _ _=>match ev GL T x with
  |some (.string _)=>jK P GL o T
  |_=>none
 | .convert _ dst x=>match P.underlying dst with
  |some (.slice _)=>none
  |_=>match ev GL T x with
   |some (.slice (some _) _ _)=>none
   |_=>jK P GL o T
 | .select _ _| .load _ _| .store _ _ _| .alloc _| .box _ _| .buildSlice _ _ _| .makeSlice _ _ _=>none
 |_=>jK P GL o T
def fD(P:Program)(GL:List Nat)(callF:cR)(o:Oper)(T:Tr Value)(M:aA):Et:=
 match o.op with
 | .alloc elem=>cN P elem M
 | .box elem x=>match ev GL T x with|some v=>eL P elem v M|none=>none
 | .buildSlice t len parts=>match mV GL T parts.toList with|some ps=>bH P t len ps M|none=>none
 | .load t x=>match ev GL T x with
  |some (.pointer (some a))=>match bI P t a M with
   |some v=>some (1,.val v,M)
   |none=>none
  |_=>none
 | .store t x y=>match ev GL T x,ev GL T y with
  |some (.pointer (some a)),some v=>match eF P t a v M with
   |some M'=>some (2,.skip,M')
   |none=>none
  |_,_=>none
 | .convert src dst x=>match ev GL T x with|some v=>qR P src dst v M|none=>none
 | .makeSlice t l c=>match ev GL T l,ev GL T c with|some l,some c=>bU P t l c M|_,_=>none
 | .slice t x lo hi mx=>match ev GL T x,pM GL T (lo.toList++hi.toList++mx.toList) with
   |some v,some _=>match rL P t v (lo.bind (ev GL T)) (hi.bind (ev GL T)) (mx.bind (ev GL T)) M with
    |some r=>some (1,.val r,M)
    |none=>none
   |_,_=>none
 | .call c=>
  match c.callee with
  | .value f=>match ev GL T f,pM GL T c.args.toList with
   |some fv,some args=>match zP fv with
    |some (g,first,captured)=>bif eY P g then kP callF g (first++args++captured) M else Mv P g (first++args++captured) M
    |none=>Hr callF fv args M
   |_,_=>none
  | .invoke x name=>match ev GL T x,pM GL T c.args.toList with
   |some (.iface t v),some args=>match Bi P t name with
    |some g=>bif eY P g then kP callF g (v::args) M else none
    |none=>none
   |_,_=>none
  | .builtin .append=>match pM GL T c.args.toList with|some [s,x]=>dF P c.argTypes.toList s x M|_=>none
  | .builtin .copy=>match pM GL T c.args.toList with|some [d,x]=>Jj P c.argTypes.toList d x M|_=>none
  | .builtin .clear=>match pM GL T c.args.toList with|some [x]=>Hl P c.argTypes.toList x M|_=>none
  | .builtin .unsafeString=>match pM GL T c.args.toList with|some [x,y]=>Hq P c.argTypes.toList x y M|_=>none
  |_=>none
 | .makeMap t hint=>match pM GL T hint.toList with
  |some _=>wU P t (hint.bind (ev GL T)) M
  |none=>none
 | .lookup t x k ok=>match ev GL T x,ev GL T k with|some v,some key=>Bh P t v key ok M|_,_=>none
 | .mapUpdate t x k v=>match ev GL T x,ev GL T k,ev GL T v with|some m,some key,some u=>rJ P t m key u M|_,_,_=>none
 |_=>none
def jO(P:Program)(GL:List Nat)(callF:cR)(o:Oper)(T:Tr Value)(M:aA):Et:=
 match fC P GL o T with
 |some r=>some (0,r,M)
 |none=>match fD P GL callF o T M with
  |some (0,_,_)=>none
  |r=>r
def eQ(ops:Array Oper)(T:Tr Value)(o:Oper):Option Bool:=
 match o.guard with
 |none=>some true
 |some (j,want)=>match(ops[j]?).bind (·.dst) with
  |some d=>match T.get d with
   |some (.bool b)=>some (b==want)
   |some _=>some false
   |none=>none
  |none=>none
def pQ(o:Oper)(r:AR)(s:St):Option St:=
 match o.dst,r with
 |none,_=>some s
 |some d,.val v=>bif Nat.blt d s.n then some {s with T:=s.T.set d (some v)} else none
 |some d,.skip=>bif Nat.blt d s.n then some {s with T:=s.T.set d (some undef)} else none
def wX(P:Program)(GL:List Nat)(callF:cR)(ops:Array Oper):List Oper->St->Option St
 | [],s=>some s
 |o::rest,s=>match eQ ops s.T o with
  |some true=>match jO P GL callF o s.T s.M with
   |some (_,r,M')=>match pQ o r {s with M:=M'} with
    |some s'=>wX P GL callF ops rest s'
    |none=>none
   |none=>none
  |some false=>match pQ o .skip s with
   |some s'=>wX P GL callF ops rest s'
   |none=>none
  |none=>none
structure jN where
 ix:Nat
 loud:Nat
 lo:Nat
 hi:Nat
def aV(deps:Nat):List jN->List (Nat×Nat)
 | []=> []
 |d::l=>bif Nat.beq d.loud 0||deps.testBit d.ix||Nat.beq d.lo d.hi then aV deps l else(d.lo,d.hi)::aV deps l
def rR(deps:Nat)(loud:Nat):List jN->Bool
 | []=>true
 |d::l=>(Nat.beq d.loud 0||Nat.beq loud 0||deps.testBit d.ix||(Nat.beq d.loud 1&&Nat.beq loud 1))&&rR deps loud l
def xD(acc:List Nat):List Edge->Nat
 | []=>0
 |e::l=>bif Region.binds .any e then 2^e.on|||(acc[e.on]?).getD 0|||xD acc l else xD acc l
def bD:List Oper->List Nat->List Nat
 | [],acc=>acc
 |o::l,acc=>bD l (acc++ [xD acc o.after.toList])
def Td(o:Oper):Bool:=match o.op with| .load _ _=>true|_=>false
def Yi(o:Oper):Bool:=match o.op with| .call c=>(match c.callee with| .builtin .append=>true| .builtin _=>false|_=>true)| .store _ _ _=>true|_=>false
def Ct(i di:Nat):List Oper->List Nat->Nat->Bool
 |o::l,d::ds,j=>(Yi o&&not (di.testBit j)&&not (d.testBit i))||Ct i di l ds (j+1)
 |_,_,_=>false
def Jk(ops:List Oper):Operand->Option Nat
 | .tmp t=>match ops.find? (fun o=>o.dst==some t) with
  |some o=>(match o.op with| .fieldAddr _ (.tmp y) _=>some y|_=>some t)
  |none=>some t
 |_=>none
def Aq(ops:List Oper)(i b:Nat):List Oper->List Nat->Bool
 |o::l,d::ds=>(match o.op with
  | .store _ x _=>d.testBit i&&(match Jk ops x with|some b'=>Nat.beq b b'|none=>false)
  |_=>false)||Aq ops i b l ds
 |_,_=>false
def Eg(ops:List Oper)(before:List Nat)(i:Nat)(o:Oper):Bool:=
 match o.op with
 | .load _ x=>(match Jk ops x with|some b=>Aq ops i b ops before|none=>false)
 |_=>false
def kU(ops:List Oper)(before:List Nat):List Oper->List Nat->Nat->List Nat
 |o::l,d::ds,i=>bif (Td o&& !(Eg ops before i o))&&Ct i d ops before 0 then i::kU ops before l ds (i+1) else kU ops before l ds (i+1)
 |_,_,_=> []
def fO(b:Nat):List Nat->Bool
 | []=>false
 |x::l=>Nat.beq x b||fO b l
def cY:List Nat->List Nat->Bool
 | [],_=>true
 |b::S,l=>not (fO b l)&&cY S l
def Il(GL:List Nat)(o:Oper)(T:Tr Value)(n0:Nat):Option Nat:=
 match o.op with
 | .load _ x=>match ev GL T x with
  |some (.pointer (some a))=>bif Nat.blt a.block n0 then some a.block else none
  |_=>none
 |_=>none
def oC(GL:List Nat)(sl:List Nat)(n0:Nat)(o:Oper)(i:Nat)(T:Tr Value):Option Nat:=bif fO i sl then Il GL o T n0 else none
def fB(s:St):St:={s with M:={s.M with log:= []}}
def Fx(s s':St):St:={s' with M:={s'.M with log:=s'.M.log++s.M.log}}
def sZ(o:Oper):Bool:=o.guard.isNone&&(match o.op with
 | .move _| .assign _| .nilCheck _| .fieldAddr _ _ _| .indexAddr _ _ _| .store _ _ _=>true
 |_=>false)
def fW(o:Oper):Bool:=match o.op with| .store _ _ _=>true|_=>false
def tV(d:Nat):List Oper->Nat->Bool
 | [],_=>true
 |o::l,i=>(d.testBit i||sZ o)&&tV d l (i+1)
def Hm(d:Nat):List Oper->Nat->Bool
 | [],_=>false
 |o::l,i=>(fW o&& !(d.testBit i))||Hm d l (i+1)
def Ui(o:Oper):Bool:=match o.op with| .call c=>(match c.callee with| .builtin _=>false|_=> !(c.argTypes.toList.all fun t=>Nat.beq t 3||Nat.beq t 4))|_=>false
def Xu(i di:Nat):List Oper->List Nat->Nat->Bool
 |o::l,d::ds,j=>(Ui o&&not (di.testBit j)&&not (d.testBit i))||Xu i di l ds (j+1)
 |_,_,_=>false
def Lw(ops:List Oper)(before:List Nat):List Oper->List Nat->Nat->Bool
 |o::l,d::ds,i=>(Td o&&Eg ops before i o&&Xu i d ops before 0)||Lw ops before l ds (i+1)
 |_,_,_=>false
def zK(ops:List Oper)(before:List Nat):Bool:=Lw ops before ops before 0
def uG(ops:List Oper)(before:List Nat):List Nat:=bif zK ops before then kU ops.dropLast before ops.dropLast before 0 else kU ops before ops before 0
def kQ(ops:List Oper)(before:List Nat):Option Oper:=
 match ops[ops.length-1]?,before[ops.length-1]? with
 |some f,some d=>bif fW f&&f.guard.isNone&&f.dst.isNone&&tV d ops.dropLast 0&&(Hm d ops.dropLast 0||zK ops before) then some f else none
 |_,_=>none
def Bc(o:Oper):Bool:=match o.op with
 | .alloc _| .box _ _| .makeSlice _ _ _| .buildSlice _ _ _=>true
 |_=>false
def tJ(o:Oper):Bool:=match o.op with
 | .store _ _ _=>true
 | .call c=>(match c.callee with| .builtin .append=>true|_=>false)
 |_=>false
def Dr(ops:Array Oper)(p:Oper->Bool)(i:Nat):Bool:=match ops[i]? with|some o=>p o|none=>false
def Pe(ops:Array Oper)(o:Oper)(deps loud:Nat):List jN->Bool
 | []=>true
 |d::l=>(Nat.beq d.loud 0||Nat.beq loud 0||deps.testBit d.ix||(Nat.beq d.loud 1&&Nat.beq loud 1)||
   (Bc o&&Nat.beq loud 1&&Dr ops tJ d.ix)||(fW o&&Nat.beq d.loud 1&&Dr ops Bc d.ix))&&Pe ops o deps loud l
def mA(ops:Array Oper):Bool:=(kQ ops.toList (bD ops.toList [])).isNone
def vV(ops:Array Oper)(o:Oper)(deps loud:Nat)(dn:List jN):Bool:=rR deps loud dn||(mA ops&&Pe ops o deps loud dn)
def pS(P:Program)(GL:List Nat)(callF:cR)(ops:Array Oper)(before:List Nat):List Oper->Nat->List jN->St->Option St
 | [],_,_,s=>some s
 |o::rest,i,dn,s=>match eQ ops s.T o,before[i]? with
   |some true,some deps=>match jO P GL callF o s.T {s.M with hide:=aV deps dn++s.M.hide} with
    |some (k,r,M')=>bif vV ops o deps k dn then
      match pQ o r {s with M:={M' with hide:=s.M.hide}} with
      |some s'=>pS P GL callF ops before rest (i+1) (⟨i,k,s.M.next,M'.next⟩::dn) s'
      |none=>none
     else none
    |none=>none
   |some false,some _=>match pQ o .skip s with
    |some s'=>pS P GL callF ops before rest (i+1) dn s'
    |none=>none
   |_,_=>none
def kW(P:Program)(GL:List Nat)(callF:cR)(ops:Array Oper)(before sl:List Nat)(n0:Nat):List Oper->Nat->List jN->List Nat->St->Option (St×List Nat)
 | [],_,_,S,s=>some (s,S)
 |o::rest,i,dn,S,s=>match eQ ops s.T o,before[i]? with
   |some true,some deps=>match jO P GL callF o s.T {s.M with hide:=aV deps dn++s.M.hide} with
    |some (k,r,M')=>match oC GL sl n0 o i s.T with
     |some b=>match pQ o r s with
      |some s'=>kW P GL callF ops before sl n0 rest (i+1) dn (b::S) s'
      |none=>none
     |none=>bif vV ops o deps k dn then
       match pQ o r {s with M:={M' with hide:=s.M.hide}} with
       |some s'=>kW P GL callF ops before sl n0 rest (i+1) (⟨i,k,s.M.next,M'.next⟩::dn) S s'
       |none=>none
      else none
    |none=>none
   |some false,some _=>match pQ o .skip s with
    |some s'=>kW P GL callF ops before sl n0 rest (i+1) dn S s'
    |none=>none
   |_,_=>none
def Df(P:Program)(t:TypeId):Nat:=match P.underlying t with
 |some d=>bif dR d then(match P.info? t with|some i=>i.size|none=>0) else 1
 |none=>0
def Ej(GL:List Nat)(sl:List Nat)(n0:Nat)(o:Oper)(i:Nat)(T:Tr Value):Option (TypeId×Addr):=bif fO i sl then
  (match o.op with
  | .load t x=>match ev GL T x with
   |some (.pointer (some a))=>bif Nat.blt a.block n0 then some (t,a) else none
   |_=>none
  |_=>none)
 else none
def xX(GL:List Nat)(o:Oper)(T:Tr Value):List (Nat×Nat×Nat):=match o.op with
 | .store _ x y=>match ev GL T x,ev GL T y with
  |some (.pointer (some a)),some v=> [(a.block,a.off,v.cells.toList.length)]
  |_,_=> []
 |_=> []
def qH(P:Program)(GL:List Nat)(callF:cR)(ops:Array Oper)(before sl:List Nat)(n0:Nat):List Oper->Nat->List jN->List (TypeId×Addr)->List (Nat×Nat×Nat)->St->Option (St×List (TypeId×Addr)×List (Nat×Nat×Nat))
 | [],_,_,S,W,s=>some (s,S,W)
 |o::rest,i,dn,S,W,s=>match eQ ops s.T o,before[i]? with
   |some true,some deps=>match jO P GL callF o s.T {s.M with hide:=aV deps dn++s.M.hide} with
    |some (k,r,M')=>match Ej GL sl n0 o i s.T with
     |some b=>match pQ o r s with
      |some s'=>qH P GL callF ops before sl n0 rest (i+1) dn (b::S) W s'
      |none=>none
     |none=>bif vV ops o deps k dn&&(Nat.ble k 1||fW o) then
       match pQ o r {s with M:={M' with hide:=s.M.hide}} with
       |some s'=>qH P GL callF ops before sl n0 rest (i+1) (⟨i,k,s.M.next,M'.next⟩::dn) S (xX GL o s.T++W) s'
       |none=>none
      else none
    |none=>none
   |some false,some _=>match pQ o .skip s with
    |some s'=>qH P GL callF ops before sl n0 rest (i+1) dn S W s'
    |none=>none
   |_,_=>none
def yJ(off n b:Nat):List (Nat×Nat×Nat)->Bool
 | []=>true
 |(b',o',n')::W=>(!(Nat.beq b' b)||Nat.ble (o'+n') off||Nat.ble (off+n) o')&&yJ off n b W
def yI(P:Program):List (TypeId×Addr)->List (Nat×Nat×Nat)->Bool
 | [],_=>true
 |(t,a)::S,W=>yJ a.off (Df P t) a.block W&&yI P S W
def wS(P:Program)(GL:List Nat)(callF:cR)(ops:Array Oper)(sl:List Nat)(s:St):Option St:=
 match qH P GL callF ops (bD ops.toList []) sl s.M.next ops.toList 0 [] [] [] (fB s) with
 |some (s',S,W)=>bif yI P S W then some (Fx s s') else none
 |none=>none
def rI(P:Program)(GL:List Nat)(callF:cR)(ops:Array Oper)(s:St):Option St:=
 match kU ops.toList (bD ops.toList []) ops.toList (bD ops.toList []) 0 with
 | []=>pS P GL callF ops (bD ops.toList []) ops.toList 0 [] s
 |x::l=>match kW P GL callF ops (bD ops.toList []) (x::l) s.M.next ops.toList 0 [] [] (fB s) with
  |some (s',S)=>bif cY S s'.M.log then some (Fx s s') else wS P GL callF ops (x::l) s
  |none=>none
def Vm(P:Program)(GL:List Nat)(f:Oper)(s s1:St):Option St:=
 match f.op with
 | .store t x y=>match ev GL s1.T x,ev GL s1.T y with
  |some (.pointer (some a)),some v=>match eF P t a v s1.M with
   |some M2=>bif Nat.blt a.block s.M.next&& !(fO a.block s1.M.log) then some (Fx s {s1 with M:=M2}) else none
   |none=>none
  |_,_=>none
 |_=>none
def Bz(P:Program)(GL:List Nat)(callF:cR)(ops:Array Oper)(f:Oper)(s:St):Option St:=
 match kW P GL callF ops (bD ops.toList []) (uG ops.toList (bD ops.toList [])) s.M.next ops.toList.dropLast 0 [] [] (fB s) with
 |some (s1,S)=>bif cY S s1.M.log then Vm P GL f s s1 else none
 |none=>none
def oK(P:Program)(GL:List Nat)(callF:cR)(ops:Array Oper)(s:St):Option St:=
 match kQ ops.toList (bD ops.toList []) with
 |some f=>Bz P GL callF ops f s
 |none=>rI P GL callF ops s
inductive cM where
 |normal
 |exit (id:Nat)
 |ret
 |goto (l:Nat)
def Jw(P:Program)(s:St):ResultVar->Option Value
 | .tmp t=>s.T.get t
 | .cell a t=>match s.T.get a with
  |some (.pointer (some a))=>bI P t a s.M
  |_=>none
def zX(P:Program)(s:St):List ResultVar->Option (List Value)
 | []=>some []
 |r::l=>match Jw P s r,zX P s l with
  |some v,some vs=>some (v::vs)
  |_,_=>none
def lU(P:Program)(fn:Func)(s:St):Option Value:=
 match zX P s fn.results.toList with
 |some [v]=>some v
 |some vs=>some (.tuple vs.toArray)
 |none=>none
def nH:List Value->Nat->Tr Value->Tr Value
 | [],_,T=>T
 |v::l,i,T=>nH l (i+1) (T.set i (some v))
def mK(P:Program)(ih:Code->St->Option (cM×St))(f:FuncId)(args:List Value)(M:aA):Option (Value×aA):=
 match P.funcs[f]? with
 |some fn=>match fn.body with
  |some c=>
   bif Nat.ble args.length fn.ntmps then
    match ih c ⟨nH args 0 .nil,fn.ntmps,M⟩ with
    |some (.normal,s)|some (.ret,s)=>match lU P fn s with
     |some v=>some (v,s.M)
     |none=>none
    |_=>none
   else none
  |none=>none
 |none=>none
def kI(ops:Array Oper):Bool:=Region.lexB .any ops
structure dG where
 calls:FuncId->Option (List Value->aA->Option (Value×aA))
 blocks:Nat->Option (Code->St->Option (cM×St))
def fQ(SP:dG)(callF:cR):cR:=fun f args M=>
 match SP.calls f with
 |some g=>g args M
 |none=>callF f args M
def sV(ih:Code->St->Option (cM×St))(c:Code):Nat->Code->St->Option (cM×St)
 |0,_,_=>none
 |n+1,d,s=>match ih d s with
  |some (.goto l,s')=>match findLabel c l with
   |some rest=>sV ih c n rest s'
   |none=>some (.goto l,s')
  |r=>r
def qU(P:Program)(GL:List Nat)(SP:dG)(ih:Code->St->Option (cM×St))(c:Code)(s:St):Option (cM×St):=
 match c with
 | .skip=>some (.normal,s)
 | .region _ ops draw=>
  bif draw then
   bif kI ops then
    match oK P GL (fQ SP (mK P ih)) ops s with
    |some s'=>some (.normal,s')
    |none=>none
   else none
  else match wX P GL (fQ SP (mK P ih)) ops ops.toList s with
   |some s'=>some (.normal,s')
   |none=>none
 | .seq a b=>match ih a s with
  |some (.normal,s')=>ih b s'
  |r=>r
 | .cond c x y=>match ev GL s.T c with
  |some (.bool t)=>ih (bif t then x else y) s
  |_=>none
 | .block id b=>match SP.blocks id with
  |some g=>g b s
  |none=>match ih b s with
   |some (.exit i,s')=>bif Nat.beq i id then some (.normal,s') else some (.exit i,s')
   |r=>r
 | .loop b=>match ih b s with
  |some (.normal,s')=>ih (.loop b) s'
  |r=>r
 | .exit id=>some (.exit id,s)
 | .ret=>some (.ret,s)
 | .label _=>some (.normal,s)
 | .goto l=>some (.goto l,s)
 | .scope c=>sV ih c 100000 c s
 |_=>none
def Cb(P:Program)(GL:List Nat)(SP:dG)(n:Nat):Code->St->Option (cM×St):=
 Nat.rec (fun _ _=>none) (fun _ ih=>qU P GL SP ih) n
def arun(P:Program)(GL:List Nat)(SP:dG)(n:Nat):FuncId->List Value->aA->Option (Value×aA):=mK P (Cb P GL SP n)
def Bn:dG:=⟨fun _=>none,fun _=>none⟩
end
end Go.Am
