/-
  Package hier: each of its laws for every argument; no conditions. The last text states which.
-/
import Derived.WalkKit
import Derived.Maps.Keyed
set_option linter.unusedVariables false
set_option linter.unusedSimpArgs false
namespace Go.Am
open Go
noncomputable section
inductive Tr(α:Type) where
 |nil
 |node (v:Option α) (l r:Tr α)
def Tr.get{α:Type}(t:Tr α):Nat->Option α:=
 Tr.rec (motive:=fun _=>Nat->Option α) (fun _=>none) (fun v _ _ ihl ihr n=>Nat.rec (motive:=fun _=>Option α) v (fun m _=>Bool.rec (ihr (m/2)) (ihl (m/2)) (Nat.beq (m%2) 0)) n) t
def Tr.val{α:Type}:Tr α->Option α
 | .nil=>none
 | .node v _ _=>v
def Tr.left{α:Type}:Tr α->Tr α
 | .nil=> .nil
 | .node _ l _=>l
def Tr.right{α:Type}:Tr α->Tr α
 | .nil=> .nil
 | .node _ _ r=>r
def Tr.setF{α:Type}(a:Option α)(f:Nat):Tr α->Nat->Tr α:=
 Nat.rec (motive:=fun _=>Tr α->Nat->Tr α) (fun t _=>t) (fun _ ih t n=>
  Nat.rec (motive:=fun _=>Tr α) (Tr.rec (motive:=fun _=>Tr α) (.node a .nil .nil) (fun _ l r _ _=> .node a l r) t)
   (fun m _=>Bool.rec (Tr.rec (motive:=fun _=>Tr α) (.node none .nil (ih .nil (m/2))) (fun v l r _ _=> .node v l (ih r (m/2))) t)
    (Tr.rec (motive:=fun _=>Tr α) (.node none (ih .nil (m/2)) .nil) (fun v l r _ _=> .node v (ih l (m/2)) r) t) (Nat.beq (m%2) 0)) n) f
def Tr.set{α:Type}(t:Tr α)(n:Nat)(a:Option α):Tr α:=Tr.setF a (n+1) t n
structure aU where
 cs:List Value
 elem:TypeId
 esz:Nat
 wf:Nat
 app:Bool
structure aA where
 blks:Tr aU
 next:Nat
 hide:List (Nat×Nat)
 log:List Nat
def aZ:List (Nat×Nat)->Nat->Bool
 | [],_=>false
 |(a,b)::l,n=>(Nat.ble a n&&Nat.blt n b)||aZ l n
def pG:Nat:=97
def dL(b:aU):Bool:=b.app&&Nat.beq b.esz pG
def Ot(b:Option aU):Option aU:=match b with|some b=>bif dL b then none else some b|none=>none
def mapO(b:Option aU):Option aU:=match b with|some b=>bif dL b then some b else none|none=>none
def aA.getA(M:aA)(id:Nat):Option aU:=bif Nat.blt id M.next&& !aZ M.hide id then M.blks.get id else none
def aA.get(M:aA)(id:Nat):Option aU:=Ot (M.getA id)
def aA.getM(M:aA)(id:Nat):Option aU:=mapO (M.getA id)
def aA.put(M:aA)(id:Nat)(b:Option aU):aA:={M with blks:=M.blks.set id b,log:=id::M.log}
def aA.alloc(M:aA)(b:aU):aA:={M with blks:=M.blks.set M.next (some b),next:=M.next+1}
def leaf:Value->Bool
 | .bool _| .int _ _| .float _ _| .complex _ _ _| .string _| .pointer none| .slice none 0 0| .map none| .chan none| .nilFunc| .nilIface=>true
 |_=>false
def mW:Fn->Bool
 | .yield _=>true
 |_=>false
mutual
def flat:Value->Bool
 | .bool _| .int _ _| .float _ _| .complex _ _ _| .string _| .nilFunc| .nilIface=>true
 | .pointer a=>a.isNone
 | .slice a l c=>a.isNone&&Nat.beq l 0&&Nat.beq c 0
 | .map r=>r.isNone
 | .chan r=>r.isNone
 | .func fn first captured=> !mW fn&&(nT first&&nT captured)
 | .iface _ v=>flat v
 | .agg cs=>nT cs
 | .tuple vs=>nT vs
def nT:Array Value->Bool
 |⟨l⟩=>dE l
def dE:List Value->Bool
 | []=>true
 |v::l=>flat v&&dE l
end
def isCell:Value->Bool
 | .agg _| .tuple _=>false
 |_=>true
structure St where
 T:Tr Value
 n:Nat
 M:aA
def ev(GL:List Nat)(T:Tr Value):Operand->Option Value
 | .tmp t=>T.get t
 | .const v=>bif flat v then some v else none
 | .global g=>bif GL.any (Nat.beq g) then some (.pointer (some ⟨g,0,none⟩)) else none
 | .func f=>some (.func (.func f) #[] #[])
def pS(GL:List Nat)(T:Tr Value):List Operand->Option (List Value)
 | []=>some []
 |x::l=>match ev GL T x,pS GL T l with
  |some v,some vs=>some (v::vs)
  |_,_=>none
def cA{α:Type}(P:Program):Sem α->Option α
 | .pure a=>some a
 | .program k=>cA P (k P)
 | .mark _ k=>cA P k
 |_=>none
inductive AR where
 |val (v:Value)
 |skip
abbrev Ey:=Option (Nat×AR×aA)
def dW:TypeDesc->Bool
 | .struct _| .array _ _=>true
 |_=>false
def dH:Nat->List Value->Option (List Value)
 |0,_=>some []
 |n+1,v::l=>match dH n l with|some r=>some (v::r)|none=>none
 |_+1,[]=>none
def bA(P:Program)(t:TypeId)(a:Addr)(M:aA):Option Value:=
 match P.underlying t,M.get a.block with
 |some d,some b=>
  bif dW d then
   match P.info? t with
   |some i=>match dH i.size (b.cs.drop a.off) with
    |some l=>some (.agg l.toArray)
    |none=>none
   |none=>none
  else b.cs[a.off]?
 |_,_=>none
def splice:List Value->Nat->List Value->List Value
 |cs,_,[]=>cs
 | [],_,_=> []
 |_::cs,0,v::l=>v::splice cs 0 l
 |c::cs,n+1,l=>c::splice cs n l
def eH(P:Program)(t:TypeId)(a:Addr)(v:Value)(M:aA):Option aA:=
 match M.get a.block,P.info? t with
 |some b,some i=>
  bif Nat.beq v.cells.toList.length i.size&&v.cells.toList.all isCell&&Nat.ble b.wf a.off&&Nat.ble (a.off+v.cells.toList.length) b.cs.length then
   some (M.put a.block (some {b with cs:=splice b.cs a.off v.cells.toList}))
  else none
 |_,_=>none
def Uj(P:Program)(t:TypeId):Option Nat:=match P.info? t with|some i=>some i.size|none=>none
def Mc(P:Program):Nat->TypeId->Bool
 |0,_=>false
 |n+1,t=>match P.underlying t with
  |some (.struct fields)=>match fields[0]? with
   |some f=>match P.underlying f.type with
    |some (.pointer e)=>Nat.beq e t
    |_=>Mc P n f.type
   |none=>false
  |_=>false
def Xp(P:Program)(elem:TypeId):Option Nat:=
 bif Mc P 3 elem then some 0 else
 match P.underlying elem with
 |some (.array _ e)=>Uj P e
 |some _=>Uj P elem
 |none=>none
def oA(z:Nat)(elem:TypeId)(cs:List Value)(M:aA):aA:=M.alloc {cs,elem,esz:=z,wf:=0,app:=true}
def made(v:Value)(M:aA):Ey:=some (1,.val v,M)
def cC(P:Program)(elem:TypeId)(M:aA):Ey:=
 match P.info? elem,Xp P elem with
 |some i,some z=>match i.zero with
  |some v=>bif flat v&&v.cells.toList.all isCell then made (.pointer (some ⟨M.next,0,none⟩)) (oA z elem v.cells.toList M) else none
  |none=>none
 |_,_=>none
def eQ(P:Program)(elem:TypeId)(v:Value)(M:aA):Ey:=
 match Xp P elem with
 |some z=>bif v.cells.toList.all isCell then made (.pointer (some ⟨M.next,0,none⟩)) (oA z elem v.cells.toList M) else none
 |none=>none
def vI(P:Program)(s:TypeId)(x:Value)(field:Nat):Option Value:=
 match P.underlying s,x with
 |some (.struct fields),.pointer (some a)=>
  match fields[field]? with
  |some f=>match P.info? f.type with
   |some i=>bif Nat.beq i.size 0 then none else some (.pointer (some (a.add f.offset)))
   |none=>none
  |none=>none
 |_,_=>none
def apart(P:Program)(t:TypeId)(cs:List Value)(off:Nat):Option Value:=
 match P.underlying t with
 |some d=>
  bif dW d then
   match P.info? t with
   |some i=>some (.agg ((cs.drop off).take i.size).toArray)
   |none=>none
  else cs[off]?
 |none=>none
def My(P:Program)(s:TypeId)(x:Value)(field:Nat):Option Value:=
 match P.underlying s,x with
 |some (.struct fields),.agg cs=>
  match fields[field]? with
  |some f=>apart P f.type cs.toList f.offset
  |none=>none
 |_,_=>none
def Nw(i:Int)(n:Nat):Bool:=decide (0<=i)&&decide (i<(n:Int))
def oP(P:Program)(t:TypeId)(x ix:Value):Option Value:=
 match P.underlying t,x,ix with
 |some (.slice elem),.slice (some a) len _,.int _ i=>
  match P.info? elem with
  |some e=>bif Nw i len then some (.pointer (some (a.add (i.toNat*e.size)))) else none
  |none=>none
 |some (.array len elem),.pointer (some a),.int _ i=>
  match P.info? elem with
  |some e=>bif Nw i len then some (.pointer (some (a.add (i.toNat*e.size)))) else none
  |none=>none
 |_,_,_=>none
def Mz(P:Program)(t:TypeId)(x ix:Value):Option Value:=
 match P.underlying t,x,ix with
 |some (.array len elem),.agg cs,.int _ i=>
  match P.info? elem with
  |some e=>bif Nw i len then apart P elem cs.toList (i.toNat*e.size) else none
  |none=>none
 |_,_,_=>none
def mL(x:Option Value)(most dflt:Nat):Option Nat:=
 match x with
 |none=>some dflt
 |some (.int _ i)=>bif decide (0<=i)&&decide (i<=(most:Int)) then some i.toNat else none
 |_=>none
def vM(P:Program)(t:TypeId)(x:Value)(lo hi mx:Option Value)(M:aA):Option Value:=
 bif mx.isSome&&hi.isNone then none else
 match P.underlying t,x with
 |some (.slice elem),.slice (some a) len cap=>
  match P.info? elem,M.get a.block,mL mx len len with
  |some e,some b,some m=>match mL hi m len with
   |some h=>match mL lo h 0 with
    |some l=>bif Nat.beq b.esz e.size&&a.spot.isNone then some (.slice (some (a.add (l*e.size))) (h-l) (bif mx.isSome then m-l+1 else bif Nat.beq h len&& !(Nat.beq cap len) then cap-l else h-l)) else none
    |none=>none
   |none=>none
  |_,_,_=>none
 |some (.slice elem),.slice none 0 0=>
  match P.info? elem,mx,mL hi 0 0 with
  |some _,none,some h=>match mL lo h 0 with
   |some _=>some (.slice none 0 0)
   |none=>none
  |_,_,_=>none
 |some (.array n elem),.pointer (some a)=>
  match P.info? elem,M.get a.block,mL mx n n with
  |some e,some b,some m=>match mL hi m n with
   |some h=>match mL lo h 0 with
    |some l=>bif Nat.beq b.esz e.size&&Nat.ble (a.off+n*e.size) b.cs.length then some (.slice (some (a.add (l*e.size))) (h-l) (bif Nat.beq h m then h-l+1 else h-l)) else none
    |none=>none
   |none=>none
  |_,_,_=>none
 |_,_=>none
def kB:Nat->List Value->List Value
 |0,_=> []
 |n+1,z=>z++kB n z
def bV(P:Program)(t:TypeId)(len cap:Value)(M:aA):Ey:=
 match P.underlying t,len,cap with
 |some (.slice elem),.int _ l,.int _ c=>
  match P.info? elem with
  |some e=>match e.zero with
   |some z=>
    bif flat z&&z.cells.toList.all isCell&&Nat.beq z.cells.toList.length e.size&& !Nat.beq e.size 0&&decide (0<=l)&&decide (l<=c)&&decide (c<2^37)&&Nat.ble e.bytes 1024 then
     made (.slice (some ⟨M.next,0,none⟩) l.toNat (bif decide (l=c) then l.toNat+1 else l.toNat)) (oA e.size elem (kB l.toNat z.cells.toList) M)
    else none
   |none=>none
  |none=>none
 |_,_,_=>none
def uS(place:Nat->Option (Nat×Nat))(cells:List Value):List (Nat×Value)->Option (List Value)
 | []=>some cells
 |(i,v)::rest=>
  match place i with
  |none=>none
  |some (off,size)=>
   bif Nat.beq v.cells.toList.length size&&Nat.ble (off+v.cells.toList.length) cells.length then uS place (splice cells off v.cells.toList) rest
   else none
def mV(GL:List Nat)(T:Tr Value):List (Nat×Operand)->Option (List (Nat×Value))
 | []=>some []
 |(i,x)::l=>match ev GL T x,mV GL T l with
  |some v,some vs=>some ((i,v)::vs)
  |_,_=>none
def xW(P:Program):List Field->Option (List (Nat×Nat))
 | []=>some []
 |f::l=>match P.info? f.type,xW P l with
  |some i,some r=>some ((f.offset,i.size)::r)
  |_,_=>none
def Mt(P:Program)(t:TypeId)(parts:List (Nat×Value)):Option Value:=
 match P.info? t,P.underlying t with
 |some i,some d=>match i.zero with
  |some z=>bif flat z then
    match d with
    | .struct fields=>match xW P fields.toList with
     |some pl=>match uS (pl[·]?) z.cells.toList parts with
      |some cs=>some (.agg cs.toArray)
      |none=>none
     |none=>none
    | .array _ elem=>match P.info? elem with
     |some e=>match uS (fun i=>some (i*e.size,e.size)) z.cells.toList parts with
      |some cs=>some (.agg cs.toArray)
      |none=>none
     |none=>none
    |_=>none
   else none
  |none=>none
 |_,_=>none
def bM(P:Program)(t:TypeId)(len:Nat)(parts:List (Nat×Value))(M:aA):Ey:=
 match P.underlying t with
 |some (.slice elem)=>match P.info? elem with
  |some e=>match e.zero with
   |some z=>
    bif flat z&&z.cells.toList.all isCell&&Nat.beq z.cells.toList.length e.size&& !Nat.beq e.size 0&&Nat.ble (len*e.size) (2^24) then
     match uS (fun i=>some (i*e.size,e.size)) (kB len z.cells.toList) parts with
     |some cs=>bif cs.all isCell then made (.slice (some ⟨M.next,0,none⟩) len (len+1)) (oA e.size elem cs M) else none
     |none=>none
    else none
   |none=>none
  |none=>none
 |_=>none
def sU(P:Program)(x:Value)(asserted:TypeId)(commaOk:Bool):Option Value:=
 match P.underlying asserted,x with
 |some (.interface _),_=>none
 |some _,.iface t v=>
  bif Nat.beq t asserted then some (bif commaOk then .tuple #[v,.bool true] else v)
  else bif commaOk then match P.info? asserted with
   |some i=>match i.zero with
    |some z=>bif flat z then some (.tuple #[z,.bool false]) else none
    |none=>none
   |none=>none
  else none
 |some _,.nilIface=>
  bif commaOk then match P.info? asserted with
   |some i=>match i.zero with
    |some z=>bif flat z then some (.tuple #[z,.bool false]) else none
    |none=>none
   |none=>none
  else none
 |_,_=>none
def De:TypeDesc->Bool
 | .interface _=>true
 |_=>false
def Uz(P:Program)(t:TypeId)(x y:Value):Option Bool:=
 match P.underlying t,x,y with
 |some (.pointer _),.pointer none,.pointer b=>some b.isNone
 |some (.pointer _),.pointer (some _),.pointer none=>some false
 |some (.pointer e),.pointer (some a),.pointer (some b)=>
  match P.info? e with
  |some i=>bif Nat.beq i.size 0 then none else bif Nat.beq a.block b.block then some (Nat.beq a.off b.off) else none
  |none=>none
 |some (.interface _),.nilIface,.iface _ _=>some false
 |some (.interface _),.iface _ _,.nilIface=>some false
 |some (.interface _),.iface s _,.iface u _=>bif Nat.beq s u then none else some false
 |some (.slice _),.slice none _ _,.slice b _ _=>some b.isNone
 |some (.slice _),.slice (some _) _ _,.slice none _ _=>some false
 |some (.func _ _ _),.nilFunc,.func _ _ _=>some false
 |some (.func _ _ _),.func _ _ _,.nilFunc=>some false
 |_,_,_=>none
def range(cs:List Value)(off n:Nat):Option (List Value):=dH n (cs.drop off)
def jB(s:ByteArray)(n:Nat):List Value:=(s.data.toList.take n).map fun b=>Value.int .u8 b.toNat
def jT(M:aA)(size n:Nat):Value->Option (List Value)
 | .slice (some a) _ _=>match M.get a.block with
  |some b=>range b.cs a.off (n*size)
  |none=>bif Nat.beq n 0 then some [] else none
 | .slice none _ _=>bif Nat.beq n 0 then some [] else none
 | .string s=>some (jB s n)
 |_=>none
def pF:Value->Option Nat
 | .slice _ n _=>some n
 | .string s=>some s.size
 |_=>none
def Ja(e:TypeInfo):Bool:=match e.zero with|some z=>Nat.beq z.cells.toList.length e.size|none=>false
def vB(e:TypeInfo)(n:Nat):Bool:= !Nat.beq e.size 0&&Nat.ble n (2^40)&&Nat.ble (n*e.bytes) (2^40)&&Nat.ble e.bytes (2^40)&&Ja e
def lB:TypeDesc->Bool
 | .int _=>true
 |_=>false
def Df(P:Program)(elem:TypeId):Bool:=
 match P.underlying elem with
 |some (.array n _)=>Nat.beq n 2
 |some (.struct fields)=>match fields.toList with
  | [a,b,c]=>Nat.beq a.type b.type&&Nat.beq b.type c.type
  |_=>false
 |_=>false
def dU(P:Program)(argTypes:List TypeId)(s x:Value)(M:aA):Ey:=
 match argTypes with
 | [sT,xT]=>match P.underlying sT,P.underlying xT with
  |some (.slice elem),some xd=>match P.info? elem,pF x with
   |some e,some n=>
    match lB xd,jT M e.size n x,s with
    |false,some new,.slice none 0 0=>
     bif !vB e n|| !(new.all isCell)|| !(Nat.beq new.length (n*e.size)) then none
     else bif Nat.beq n 0 then some (1,.val (.slice none 0 0),M)
     else made (.slice (some ⟨M.next,0,none⟩) n n) (oA e.size elem new M)
    |false,some new,.slice (some a) len cap=>
     match M.get a.block with
     |some b=>match range b.cs a.off (len*e.size) with
      |some old=>
       bif !vB e (len+n)|| !(new.all isCell)|| !(Nat.beq new.length (n*e.size))|| !(Nat.beq b.esz e.size)|| !(Nat.beq b.elem elem)|| !a.spot.isNone then none
       else bif Nat.beq n 0 then some (1,.val s,M)
       else bif !(Nat.beq cap len) then
        bif Nat.ble cap (len+n) then made (.slice (some ⟨M.next,0,none⟩) (len+n) (len+n)) (oA e.size elem (old++new) M)
        else bif Nat.ble b.wf (a.off+len*e.size)&&Nat.ble (a.off+(len+n)*e.size) b.cs.length then
         some (2,.val (.slice (some a) (len+n) cap),M.put a.block (some {b with cs:=splice b.cs (a.off+len*e.size) new}))
        else none
       else bif b.app&&Nat.ble b.wf (a.off+len*e.size) then
        bif Df P elem&& !(Nat.beq (len*e.size) 0) then
         some (2,.val (.slice (some ⟨M.next,0,none⟩) (len+n) (len+n)),(M.put a.block (some {b with cs:=b.cs.take (a.off+len*e.size),wf:=a.off+len*e.size,app:=false})).alloc {cs:=old++new,elem:=b.elem,esz:=b.esz,wf:=len*e.size,app:=true})
        else bif Nat.beq b.wf 0||Nat.blt a.off b.wf then
        some (2,.val (.slice (some ⟨M.next,0,none⟩) (len+n) (len+n)),(M.put a.block none).alloc {cs:=old++new,elem:=b.elem,esz:=b.esz,wf:=b.wf-a.off,app:=true})
       else none
       else none
      |none=>none
     |none=>none
    |_,_,_=>none
   |_,_=>none
  |_,_=>none
 |_=>none
def Jl(P:Program)(argTypes:List TypeId)(d x:Value)(M:aA):Ey:=
 match argTypes with
 |dT::_=>match P.underlying dT with
  |some (.slice elem)=>match P.info? elem,pF x,d with
   |some _,some _,.slice none 0 0=>some (1,.val (.int .i64 0),M)
   |some e,some xl,.slice (some a) dl _=>
    match jT M e.size (Nat.min xl dl) x,M.get a.block with
    |some l,some b=>
     bif !(l.all isCell)|| !(Nat.ble b.wf a.off)|| !(Nat.ble (a.off+l.length) b.cs.length)|| !a.spot.isNone then none
     else some (2,.val (.int .i64 (Nat.min xl dl)),M.put a.block (some {b with cs:=splice b.cs a.off l}))
    |_,_=>none
   |_,_,_=>none
  |_=>none
 |_=>none
def Hl(P:Program)(argTypes:List TypeId)(x:Value)(M:aA):Ey:=
 match argTypes,x with
 |t::_,.slice (some a) n _=>match P.underlying t with
  |some (.slice elem)=>match(P.info? elem).bind (·.zero),M.get a.block with
   |some z,some b=>
    bif flat z&&z.cells.toList.all isCell&& !Nat.beq (n*z.cells.toList.length) 0&&Nat.ble b.wf a.off&&Nat.ble (a.off+n*z.cells.toList.length) b.cs.length&&a.spot.isNone then
     some (2,.val (.tuple #[]),M.put a.block (some {b with cs:=splice b.cs a.off (kB n z.cells.toList)}))
    else none
   |_,_=>none
  |_=>none
 |_,_=>none
def oZ(P:Program):Nat->TypeId->TypeId->Bool
 |0,_,_=>false
 |n+1,e,u=> !(Nat.beq (P.cellsOf e) 0)&&(Nat.beq e u||match P.underlying e with
  |some (.struct fields)=>match fields[0]? with
   |some f=> !(P.stoodInHeld e)&&Nat.beq f.offset 0&&oZ P n f.type u
   |none=>false
  |_=>false)
def gX:List Value->Option (List UInt8)
 | []=>some []
 | .int .u8 n::l=>match gX l with
  |some r=>some (UInt8.ofNat n.toNat::r)
  |none=>none
 |_=>none
def qV(P:Program)(src dst:TypeId)(x:Value)(M:aA):Ey:=
 match P.underlying src,P.underlying dst,x with
 |some .string,some (.slice e),.string s=>
  match P.underlying e,P.info? e with
  |some (.int .u8),some i=>bif Nat.beq i.size 1&&Nat.ble s.size (2^40) then made (.slice (some ⟨M.next,0,none⟩) s.size s.size) (oA i.size e (jB s s.size) M) else none
  |_,_=>none
 |some (.slice e),some .string,.slice (some a) len _=>
  match P.underlying e,M.get a.block with
  |some (.int .u8),some b=>match(bif a.spot.isNone then range b.cs a.off len else none) with
   |some l=>match gX l with
    |some bs=>some (1,.val (.string ⟨bs.toArray⟩),M)
    |none=>none
   |none=>none
  |_,_=>none
 |some (.pointer t),some .unsafePointer,.pointer (some a)=>
  match P.info? t,M.get a.block with
  |some j,some b=>bif Nat.beq j.size 0|| !(Nat.blt a.off b.cs.length) then none else some (1,.val (.pointer (some a)),M)
  |_,_=>none
 |some .unsafePointer,some (.pointer u),.pointer (some a)=>
  match P.info? u,M.get a.block with
  |some j,some b=>bif Nat.beq j.size 0|| !(Nat.beq b.esz 0)|| !(Nat.beq a.off 0)|| !(Nat.ble (P.cellsOf b.elem) b.cs.length)|| !(oZ P 3 b.elem u) then none else some (1,.val (.pointer (some a)),M)
  |_,_=>none
 |_,_,_=>none
def Hq(P:Program)(argTypes:List TypeId)(x y:Value)(M:aA):Ey:=
 match argTypes,x,y with
 |pt::_,.pointer (some a),.int .i64 n=>match P.underlying pt,M.get a.block with
  |some (.pointer e),some b=>match range b.cs a.off n.toNat with
   |some l=>match gX l with
    |some bs=>bif decide (0<n)&&decide (n<=1099511627776)&&Nat.beq b.elem e&&b.app&&Nat.beq (P.cellsOf e) 1 then
      some (2,.val (.string ⟨bs.toArray⟩),M.put a.block (some {b with wf:=b.cs.length,app:=false}))
     else none
    |none=>none
   |none=>none
  |_,_=>none
 |_,_,_=>none
def Na(P:Program)(g:FuncId)(args:List Value)(M:aA):Ey:=
 match P.funcs[g]?,args with
 |some fn,[x]=>bif fn.name== "internal/abi.NoEscape" &&fn.origin== "" &&fn.body.isNone then some (1,.val x,M) else none
 |_,_=>none
def Nx(P:Program)(k:TypeId):Bool:=
 match P.underlying k with
 |some (.array _ _)=>P.keyTypeAt 5 k&&P.tiled 5 k
 |some (.struct _)=>P.keyTypeAt 5 k&&P.tiled 5 k
 |some (.int _)|some .string|some .bool=>true
 |_=>false
def Hs:Value->Value->Bool
 | .bool a,.bool b=>a==b
 | .int k a,.int k' b=>decide (k=k')&&decide (a=b)
 | .string a,.string b=>decide (a=b)
 |_,_=>false
def tY:List Value->List Value->Bool
 | [],[]=>true
 |a::l,b::m=>Hs a b&&tY l m
 |_,_=>false
def pD:Value->Value->Bool
 | .agg ⟨x⟩,.agg ⟨y⟩=>tY x y
 |a,b=>Hs a b
def Gk(P:Program)(k:TypeId)(key:Value):Bool:=Nx P k&&(keyOf P k key).isSome&&flat key&&pD key key
def xI(key:Value):List Value->Option Value
 |k::v::l=>bif pD key k then some v else xI key l
 |_=>none
def Ih(key val:Value):List Value->List Value
 |k::v::l=>bif pD key k then k::val::l else k::v::Ih key val l
 |_=> [key,val]
def Ex(P:Program)(t:TypeId):Option Value:=
 match P.info? t with
 |some i=>match i.zero with
  |some z=>bif flat z then some z else none
  |none=>none
 |none=>none
def Bj(P:Program)(t:TypeId)(x key:Value)(ok:Bool)(M:aA):Ey:=
 match P.underlying t,x with
 |some (.map k e),.map (some r)=>match M.getM r,Ex P e with
  |some b,some z=>bif Nat.beq b.elem k&&Gk P k key then
    match xI key b.cs with
    |some v=>some (1,.val (bif ok then .tuple #[v,.bool true] else v),M)
    |none=>some (1,.val (bif ok then .tuple #[z,.bool false] else z),M)
   else none
  |_,_=>none
 |_,_=>none
def rM(P:Program)(t:TypeId)(x key v:Value)(M:aA):Ey:=
 match P.underlying t,x with
 |some (.map k _),.map (some r)=>match M.getM r with
  |some b=>bif Nat.beq b.elem k&&Gk P k key then some (2,.skip,M.put r (some {b with cs:=Ih key v b.cs})) else none
  |none=>none
 |_,_=>none
def Su:Option Value->Bool
 |none=>true
 |some (.int _ _)=>true
 |_=>false
def wT(P:Program)(t:TypeId)(hint:Option Value)(M:aA):Ey:=
 match P.underlying t with
 |some (.map k _)=>bif Su hint then some (1,.val (.map (some M.next)),M.alloc ⟨[],k,pG,0,true⟩) else none
 |_=>none
abbrev cT:=FuncId->List Value->aA->Option (Value×aA)
def kK(n:Nat):List Nat->List Nat
 | []=> []
 |x::l=>bif Nat.blt x n then x::kK n l else kK n l
def kR(callF:cT)(f:FuncId)(args:List Value)(M:aA):Ey:=
 match callF f args {M with log:= []} with
 |some (v,M')=>
  match kK M.next M'.log with
  | []=>some (1,.val v,{M' with log:=M.log,hide:=M.hide})
  |l=>some (2,.val v,{M' with log:=l++M.log,hide:=M.hide})
 |none=>none
def YB:Nat:=1000000000
def Hr(callF:cT)(fv:Value)(args:List Value)(M:aA):Ey:=
 match fv with
 | .func (.yield r) ⟨[]⟩ ⟨[]⟩=>kR callF (YB+r) args M
 |_=>none
def eW(P:Program)(f:FuncId):Bool:=
 match P.funcs[f]? with
 |some fn=>fn.body.isSome
 |none=>false
def jI(P:Program)(GL:List Nat)(o:Oper)(T:Tr Value):Option AR:=
 match pS GL T o.op.operands.toList with
 |some vs=>
  bif dE vs then
   match cA P (execOp (fun x=>(ev GL T x).getD undef) o) with
   |some (.value v)=>bif flat v then some (.val v) else none
   |_=>none
  else none
 |none=>none
def zO:Value->Option (FuncId×List Value×List Value)
 | .func (.func f) first captured=>some (f,first.toList,captured.toList)
 |_=>none
def Ia:TypeDesc->Bool
 | .pointer _=>true
 |_=>false
def Bl(P:Program)(t:TypeId)(name:String):Option FuncId:=
 match P.info? t with
 |some i=>match i.methods.find? (·.name==name) with
  |some m=>match m.path.toList with
   | []=>match m.func,P.underlying t with
    |some (f,b),some d=>bif b==Ia d then some f else none
    |_,_=>none
   |_=>none
  |none=>none
 |none=>none
def yB(v:Option Value):Option AR:=match v with|some v=>some (.val v)|none=>none
def kA(P:Program)(GL:List Nat)(o:Oper)(T:Tr Value)(b:Option Value):Option AR:=
 match jI P GL o T with
 |some r=>some r
 |none=>yB b
def eY(P:Program)(GL:List Nat)(o:Oper)(T:Tr Value):Option AR:=
 match o.op with
 | .move x| .assign x=>yB (ev GL T x)
 | .pick c a b=>match ev GL T c with
  |some (.bool t)=>yB (ev GL T (bif t then a else b))
  |_=>none
 | .build t parts=>match mV GL T parts.toList with|some ps=>yB (Mt P t ps)|none=>none
 | .nilCheck x=>match ev GL T x with
  |some (.pointer (some a))=>some (.val (.pointer (some a)))
  |some (.iface t v)=>some (.val (.iface t v))
  |some (.func (.func f) x y)=>some (.val (.func (.func f) x y))
  |_=>none
 | .binOp op t x y _=>kA P GL o T (match op,ev GL T x,ev GL T y with
   | .eql,some a,some b=>match Uz P t a b with|some r=>some (.bool r)|none=>none
   | .neq,some a,some b=>match Uz P t a b with|some r=>some (.bool (!r))|none=>none
   |_,_,_=>none)
 | .makeInterface xT x=>match P.underlying xT,ev GL T x with
  |some d,some v=>bif De d then none else some (.val (.iface xT v))
  |_,_=>none
 | .makeFunc fn first captured=>match pS GL T first.toList,pS GL T captured.toList with
  |some a,some b=>bif mW fn then none else some (.val (.func fn a.toArray b.toArray))
  |_,_=>none
 | .fieldAddr s x f=>match ev GL T x with|some v=>yB (vI P s v f)|none=>none
 | .field s x f=>match ev GL T x with|some v=>yB (My P s v f)|none=>none
 | .indexAddr t x ix=>match ev GL T x,ev GL T ix with|some v,some i=>yB (oP P t v i)|_,_=>none
 | .index t x ix=>kA P GL o T (match ev GL T x,ev GL T ix with|some v,some i=>Mz P t v i|_,_=>none)
 | .typeAssert x _ asserted ok=>match ev GL T x with|some v=>yB (sU P v asserted ok)|none=>none
 | .extract x i=>match ev GL T x with|some (.tuple vs)=>yB vs[i]?|_=>none
 | .call c=>match c.callee with
  | .builtin .len=>kA P GL o T (match pS GL T c.args.toList,(c.argTypes[0]?).bind (P.underlying ·) with
    |some [.slice (some _) n _],some (.slice _)=>some (.int .i64 n)
    |_,_=>none)
  | .value f=>match ev GL T f with
   |some fv=>match zO fv with
    |some (g,_,_)=>bif eW P g then none else jI P GL o T
    |none=>none
   |none=>none
  | .builtin .append=>none
  | .builtin .copy=>none
  | .builtin .clear=>none
  | .builtin .unsafeSliceData=>kA P GL o T (match pS GL T c.args.toList with
    |some [.slice (some a) n _]=>bif Nat.beq n 0 then none else some (.pointer (some a))
    |_=>none)
  |_=>jI P GL o T
 | .slice _ x _ _ _=>match ev GL T x with
  |some (.string _)=>jI P GL o T
  |_=>none
 | .convert _ dst x=>match P.underlying dst with
  |some (.slice _)=>none
  |_=>match ev GL T x with
   |some (.slice (some _) _ _)=>none
   |_=>jI P GL o T
 | .select _ _| .load _ _| .store _ _ _| .alloc _| .box _ _| .buildSlice _ _ _| .makeSlice _ _ _=>none
 |_=>jI P GL o T
def eZ(P:Program)(GL:List Nat)(callF:cT)(o:Oper)(T:Tr Value)(M:aA):Ey:=
 match o.op with
 | .alloc elem=>cC P elem M
 | .box elem x=>match ev GL T x with|some v=>eQ P elem v M|none=>none
 | .buildSlice t len parts=>match mV GL T parts.toList with|some ps=>bM P t len ps M|none=>none
 | .load t x=>match ev GL T x with
  |some (.pointer (some a))=>match bA P t a M with
   |some v=>some (1,.val v,M)
   |none=>none
  |_=>none
 | .store t x y=>match ev GL T x,ev GL T y with
  |some (.pointer (some a)),some v=>match eH P t a v M with
   |some M'=>some (2,.skip,M')
   |none=>none
  |_,_=>none
 | .convert src dst x=>match ev GL T x with|some v=>qV P src dst v M|none=>none
 | .makeSlice t l c=>match ev GL T l,ev GL T c with|some l,some c=>bV P t l c M|_,_=>none
 | .slice t x lo hi mx=>match ev GL T x,pS GL T (lo.toList++hi.toList++mx.toList) with
   |some v,some _=>match vM P t v (lo.bind (ev GL T)) (hi.bind (ev GL T)) (mx.bind (ev GL T)) M with
    |some r=>some (1,.val r,M)
    |none=>none
   |_,_=>none
 | .call c=>
  match c.callee with
  | .value f=>match ev GL T f,pS GL T c.args.toList with
   |some fv,some args=>match zO fv with
    |some (g,first,captured)=>bif eW P g then kR callF g (first++args++captured) M else Na P g (first++args++captured) M
    |none=>Hr callF fv args M
   |_,_=>none
  | .invoke x name=>match ev GL T x,pS GL T c.args.toList with
   |some (.iface t v),some args=>match Bl P t name with
    |some g=>bif eW P g then kR callF g (v::args) M else none
    |none=>none
   |_,_=>none
  | .builtin .append=>match pS GL T c.args.toList with|some [s,x]=>dU P c.argTypes.toList s x M|_=>none
  | .builtin .copy=>match pS GL T c.args.toList with|some [d,x]=>Jl P c.argTypes.toList d x M|_=>none
  | .builtin .clear=>match pS GL T c.args.toList with|some [x]=>Hl P c.argTypes.toList x M|_=>none
  | .builtin .unsafeString=>match pS GL T c.args.toList with|some [x,y]=>Hq P c.argTypes.toList x y M|_=>none
  |_=>none
 | .makeMap t hint=>match pS GL T hint.toList with
  |some _=>wT P t (hint.bind (ev GL T)) M
  |none=>none
 | .lookup t x k ok=>match ev GL T x,ev GL T k with|some v,some key=>Bj P t v key ok M|_,_=>none
 | .mapUpdate t x k v=>match ev GL T x,ev GL T k,ev GL T v with|some m,some key,some u=>rM P t m key u M|_,_,_=>none
 |_=>none
def jM(P:Program)(GL:List Nat)(callF:cT)(o:Oper)(T:Tr Value)(M:aA):Ey:=
 match eY P GL o T with
 |some r=>some (0,r,M)
 |none=>match eZ P GL callF o T M with
  |some (0,_,_)=>none
  |r=>r
def eO(ops:Array Oper)(T:Tr Value)(o:Oper):Option Bool:=
 match o.guard with
 |none=>some true
 |some (j,want)=>match(ops[j]?).bind (·.dst) with
  |some d=>match T.get d with
   |some (.bool b)=>some (b==want)
   |some _=>some false
   |none=>none
  |none=>none
def pX(o:Oper)(r:AR)(s:St):Option St:=
 match o.dst,r with
 |none,_=>some s
 |some d,.val v=>bif Nat.blt d s.n then some {s with T:=s.T.set d (some v)} else none
 |some d,.skip=>bif Nat.blt d s.n then some {s with T:=s.T.set d (some undef)} else none
def wW(P:Program)(GL:List Nat)(callF:cT)(ops:Array Oper):List Oper->St->Option St
 | [],s=>some s
 |o::rest,s=>match eO ops s.T o with
  |some true=>match jM P GL callF o s.T s.M with
   |some (_,r,M')=>match pX o r {s with M:=M'} with
    |some s'=>wW P GL callF ops rest s'
    |none=>none
   |none=>none
  |some false=>match pX o .skip s with
   |some s'=>wW P GL callF ops rest s'
   |none=>none
  |none=>none
structure jL where
 ix:Nat
 loud:Nat
 lo:Nat
 hi:Nat
def aI(deps:Nat):List jL->List (Nat×Nat)
 | []=> []
 |d::l=>bif Nat.beq d.loud 0||deps.testBit d.ix||Nat.beq d.lo d.hi then aI deps l else(d.lo,d.hi)::aI deps l
def rR(deps:Nat)(loud:Nat):List jL->Bool
 | []=>true
 |d::l=>(Nat.beq d.loud 0||Nat.beq loud 0||deps.testBit d.ix||(Nat.beq d.loud 1&&Nat.beq loud 1))&&rR deps loud l
def xC(acc:List Nat):List Edge->Nat
 | []=>0
 |e::l=>bif Region.binds .any e then 2^e.on|||(acc[e.on]?).getD 0|||xC acc l else xC acc l
def bG:List Oper->List Nat->List Nat
 | [],acc=>acc
 |o::l,acc=>bG l (acc++ [xC acc o.after.toList])
def Tb(o:Oper):Bool:=match o.op with| .load _ _=>true|_=>false
def Yc(o:Oper):Bool:=match o.op with| .call c=>(match c.callee with| .builtin .append=>true| .builtin _=>false|_=>true)| .store _ _ _=>true|_=>false
def Cx(i di:Nat):List Oper->List Nat->Nat->Bool
 |o::l,d::ds,j=>(Yc o&&not (di.testBit j)&&not (d.testBit i))||Cx i di l ds (j+1)
 |_,_,_=>false
def Jm(ops:List Oper):Operand->Option Nat
 | .tmp t=>match ops.find? (fun o=>o.dst==some t) with
  |some o=>(match o.op with| .fieldAddr _ (.tmp y) _=>some y|_=>some t)
  |none=>some t
 |_=>none
def As(ops:List Oper)(i b:Nat):List Oper->List Nat->Bool
 |o::l,d::ds=>(match o.op with
  | .store _ x _=>d.testBit i&&(match Jm ops x with|some b'=>Nat.beq b b'|none=>false)
  |_=>false)||As ops i b l ds
 |_,_=>false
def Ek(ops:List Oper)(before:List Nat)(i:Nat)(o:Oper):Bool:=
 match o.op with
 | .load _ x=>(match Jm ops x with|some b=>As ops i b ops before|none=>false)
 |_=>false
def kW(ops:List Oper)(before:List Nat):List Oper->List Nat->Nat->List Nat
 |o::l,d::ds,i=>bif (Tb o&& !(Ek ops before i o))&&Cx i d ops before 0 then i::kW ops before l ds (i+1) else kW ops before l ds (i+1)
 |_,_,_=> []
def fO(b:Nat):List Nat->Bool
 | []=>false
 |x::l=>Nat.beq x b||fO b l
def cU:List Nat->List Nat->Bool
 | [],_=>true
 |b::S,l=>not (fO b l)&&cU S l
def Ik(GL:List Nat)(o:Oper)(T:Tr Value)(n0:Nat):Option Nat:=
 match o.op with
 | .load _ x=>match ev GL T x with
  |some (.pointer (some a))=>bif Nat.blt a.block n0 then some a.block else none
  |_=>none
 |_=>none
def oF(GL:List Nat)(sl:List Nat)(n0:Nat)(o:Oper)(i:Nat)(T:Tr Value):Option Nat:=bif fO i sl then Ik GL o T n0 else none
def eX(s:St):St:={s with M:={s.M with log:= []}}
def Fy(s s':St):St:={s' with M:={s'.M with log:=s'.M.log++s.M.log}}
def sX(o:Oper):Bool:=o.guard.isNone&&(match o.op with
 | .move _| .assign _| .nilCheck _| .fieldAddr _ _ _| .indexAddr _ _ _| .store _ _ _=>true
 |_=>false)
def fU(o:Oper):Bool:=match o.op with| .store _ _ _=>true|_=>false
def tX(d:Nat):List Oper->Nat->Bool
 | [],_=>true
 |o::l,i=>(d.testBit i||sX o)&&tX d l (i+1)
def Hm(d:Nat):List Oper->Nat->Bool
 | [],_=>false
 |o::l,i=>(fU o&& !(d.testBit i))||Hm d l (i+1)
def Ug(o:Oper):Bool:=match o.op with| .call c=>(match c.callee with| .builtin _=>false|_=> !(c.argTypes.toList.all fun t=>Nat.beq t 3||Nat.beq t 4))|_=>false
def Xq(i di:Nat):List Oper->List Nat->Nat->Bool
 |o::l,d::ds,j=>(Ug o&&not (di.testBit j)&&not (d.testBit i))||Xq i di l ds (j+1)
 |_,_,_=>false
def Mb(ops:List Oper)(before:List Nat):List Oper->List Nat->Nat->Bool
 |o::l,d::ds,i=>(Tb o&&Ek ops before i o&&Xq i d ops before 0)||Mb ops before l ds (i+1)
 |_,_,_=>false
def zJ(ops:List Oper)(before:List Nat):Bool:=Mb ops before ops before 0
def uM(ops:List Oper)(before:List Nat):List Nat:=bif zJ ops before then kW ops.dropLast before ops.dropLast before 0 else kW ops before ops before 0
def kT(ops:List Oper)(before:List Nat):Option Oper:=
 match ops[ops.length-1]?,before[ops.length-1]? with
 |some f,some d=>bif fU f&&f.guard.isNone&&f.dst.isNone&&tX d ops.dropLast 0&&(Hm d ops.dropLast 0||zJ ops before) then some f else none
 |_,_=>none
def Bg(o:Oper):Bool:=match o.op with
 | .alloc _| .box _ _| .makeSlice _ _ _| .buildSlice _ _ _=>true
 |_=>false
def tH(o:Oper):Bool:=match o.op with
 | .store _ _ _=>true
 | .call c=>(match c.callee with| .builtin .append=>true|_=>false)
 |_=>false
def Dt(ops:Array Oper)(p:Oper->Bool)(i:Nat):Bool:=match ops[i]? with|some o=>p o|none=>false
def Pg(ops:Array Oper)(o:Oper)(deps loud:Nat):List jL->Bool
 | []=>true
 |d::l=>(Nat.beq d.loud 0||Nat.beq loud 0||deps.testBit d.ix||(Nat.beq d.loud 1&&Nat.beq loud 1)||
   (Bg o&&Nat.beq loud 1&&Dt ops tH d.ix)||(fU o&&Nat.beq d.loud 1&&Dt ops Bg d.ix))&&Pg ops o deps loud l
def mC(ops:Array Oper):Bool:=(kT ops.toList (bG ops.toList [])).isNone
def wA(ops:Array Oper)(o:Oper)(deps loud:Nat)(dn:List jL):Bool:=rR deps loud dn||(mC ops&&Pg ops o deps loud dn)
def pY(P:Program)(GL:List Nat)(callF:cT)(ops:Array Oper)(before:List Nat):List Oper->Nat->List jL->St->Option St
 | [],_,_,s=>some s
 |o::rest,i,dn,s=>match eO ops s.T o,before[i]? with
   |some true,some deps=>match jM P GL callF o s.T {s.M with hide:=aI deps dn++s.M.hide} with
    |some (k,r,M')=>bif wA ops o deps k dn then
      match pX o r {s with M:={M' with hide:=s.M.hide}} with
      |some s'=>pY P GL callF ops before rest (i+1) (⟨i,k,s.M.next,M'.next⟩::dn) s'
      |none=>none
     else none
    |none=>none
   |some false,some _=>match pX o .skip s with
    |some s'=>pY P GL callF ops before rest (i+1) dn s'
    |none=>none
   |_,_=>none
def kY(P:Program)(GL:List Nat)(callF:cT)(ops:Array Oper)(before sl:List Nat)(n0:Nat):List Oper->Nat->List jL->List Nat->St->Option (St×List Nat)
 | [],_,_,S,s=>some (s,S)
 |o::rest,i,dn,S,s=>match eO ops s.T o,before[i]? with
   |some true,some deps=>match jM P GL callF o s.T {s.M with hide:=aI deps dn++s.M.hide} with
    |some (k,r,M')=>match oF GL sl n0 o i s.T with
     |some b=>match pX o r s with
      |some s'=>kY P GL callF ops before sl n0 rest (i+1) dn (b::S) s'
      |none=>none
     |none=>bif wA ops o deps k dn then
       match pX o r {s with M:={M' with hide:=s.M.hide}} with
       |some s'=>kY P GL callF ops before sl n0 rest (i+1) (⟨i,k,s.M.next,M'.next⟩::dn) S s'
       |none=>none
      else none
    |none=>none
   |some false,some _=>match pX o .skip s with
    |some s'=>kY P GL callF ops before sl n0 rest (i+1) dn S s'
    |none=>none
   |_,_=>none
def Di(P:Program)(t:TypeId):Nat:=match P.underlying t with
 |some d=>bif dW d then(match P.info? t with|some i=>i.size|none=>0) else 1
 |none=>0
def Em(GL:List Nat)(sl:List Nat)(n0:Nat)(o:Oper)(i:Nat)(T:Tr Value):Option (TypeId×Addr):=bif fO i sl then
  (match o.op with
  | .load t x=>match ev GL T x with
   |some (.pointer (some a))=>bif Nat.blt a.block n0 then some (t,a) else none
   |_=>none
  |_=>none)
 else none
def xY(GL:List Nat)(o:Oper)(T:Tr Value):List (Nat×Nat×Nat):=match o.op with
 | .store _ x y=>match ev GL T x,ev GL T y with
  |some (.pointer (some a)),some v=> [(a.block,a.off,v.cells.toList.length)]
  |_,_=> []
 |_=> []
def qM(P:Program)(GL:List Nat)(callF:cT)(ops:Array Oper)(before sl:List Nat)(n0:Nat):List Oper->Nat->List jL->List (TypeId×Addr)->List (Nat×Nat×Nat)->St->Option (St×List (TypeId×Addr)×List (Nat×Nat×Nat))
 | [],_,_,S,W,s=>some (s,S,W)
 |o::rest,i,dn,S,W,s=>match eO ops s.T o,before[i]? with
   |some true,some deps=>match jM P GL callF o s.T {s.M with hide:=aI deps dn++s.M.hide} with
    |some (k,r,M')=>match Em GL sl n0 o i s.T with
     |some b=>match pX o r s with
      |some s'=>qM P GL callF ops before sl n0 rest (i+1) dn (b::S) W s'
      |none=>none
     |none=>bif wA ops o deps k dn&&(Nat.ble k 1||fU o) then
       match pX o r {s with M:={M' with hide:=s.M.hide}} with
       |some s'=>qM P GL callF ops before sl n0 rest (i+1) (⟨i,k,s.M.next,M'.next⟩::dn) S (xY GL o s.T++W) s'
       |none=>none
      else none
    |none=>none
   |some false,some _=>match pX o .skip s with
    |some s'=>qM P GL callF ops before sl n0 rest (i+1) dn S W s'
    |none=>none
   |_,_=>none
def yK(off n b:Nat):List (Nat×Nat×Nat)->Bool
 | []=>true
 |(b',o',n')::W=>(!(Nat.beq b' b)||Nat.ble (o'+n') off||Nat.ble (off+n) o')&&yK off n b W
def yJ(P:Program):List (TypeId×Addr)->List (Nat×Nat×Nat)->Bool
 | [],_=>true
 |(t,a)::S,W=>yK a.off (Di P t) a.block W&&yJ P S W
def wR(P:Program)(GL:List Nat)(callF:cT)(ops:Array Oper)(sl:List Nat)(s:St):Option St:=
 match qM P GL callF ops (bG ops.toList []) sl s.M.next ops.toList 0 [] [] [] (eX s) with
 |some (s',S,W)=>bif yJ P S W then some (Fy s s') else none
 |none=>none
def rL(P:Program)(GL:List Nat)(callF:cT)(ops:Array Oper)(s:St):Option St:=
 match kW ops.toList (bG ops.toList []) ops.toList (bG ops.toList []) 0 with
 | []=>pY P GL callF ops (bG ops.toList []) ops.toList 0 [] s
 |x::l=>match kY P GL callF ops (bG ops.toList []) (x::l) s.M.next ops.toList 0 [] [] (eX s) with
  |some (s',S)=>bif cU S s'.M.log then some (Fy s s') else wR P GL callF ops (x::l) s
  |none=>none
def Vk(P:Program)(GL:List Nat)(f:Oper)(s s1:St):Option St:=
 match f.op with
 | .store t x y=>match ev GL s1.T x,ev GL s1.T y with
  |some (.pointer (some a)),some v=>match eH P t a v s1.M with
   |some M2=>bif Nat.blt a.block s.M.next&& !(fO a.block s1.M.log) then some (Fy s {s1 with M:=M2}) else none
   |none=>none
  |_,_=>none
 |_=>none
def Cd(P:Program)(GL:List Nat)(callF:cT)(ops:Array Oper)(f:Oper)(s:St):Option St:=
 match kY P GL callF ops (bG ops.toList []) (uM ops.toList (bG ops.toList [])) s.M.next ops.toList.dropLast 0 [] [] (eX s) with
 |some (s1,S)=>bif cU S s1.M.log then Vk P GL f s s1 else none
 |none=>none
def oO(P:Program)(GL:List Nat)(callF:cT)(ops:Array Oper)(s:St):Option St:=
 match kT ops.toList (bG ops.toList []) with
 |some f=>Cd P GL callF ops f s
 |none=>rL P GL callF ops s
inductive cQ where
 |normal
 |exit (id:Nat)
 |ret
 |goto (l:Nat)
def Jy(P:Program)(s:St):ResultVar->Option Value
 | .tmp t=>s.T.get t
 | .cell a t=>match s.T.get a with
  |some (.pointer (some a))=>bA P t a s.M
  |_=>none
def zY(P:Program)(s:St):List ResultVar->Option (List Value)
 | []=>some []
 |r::l=>match Jy P s r,zY P s l with
  |some v,some vs=>some (v::vs)
  |_,_=>none
def lX(P:Program)(fn:Func)(s:St):Option Value:=
 match zY P s fn.results.toList with
 |some [v]=>some v
 |some vs=>some (.tuple vs.toArray)
 |none=>none
def nH:List Value->Nat->Tr Value->Tr Value
 | [],_,T=>T
 |v::l,i,T=>nH l (i+1) (T.set i (some v))
def mM(P:Program)(ih:Code->St->Option (cQ×St))(f:FuncId)(args:List Value)(M:aA):Option (Value×aA):=
 match P.funcs[f]? with
 |some fn=>match fn.body with
  |some c=>
   bif Nat.ble args.length fn.ntmps then
    match ih c ⟨nH args 0 .nil,fn.ntmps,M⟩ with
    |some (.normal,s)|some (.ret,s)=>match lX P fn s with
     |some v=>some (v,s.M)
     |none=>none
    |_=>none
   else none
  |none=>none
 |none=>none
def kL(ops:Array Oper):Bool:=Region.lexB .any ops
structure dG where
 calls:FuncId->Option (List Value->aA->Option (Value×aA))
 blocks:Nat->Option (Code->St->Option (cQ×St))
def fP(SP:dG)(callF:cT):cT:=fun f args M=>
 match SP.calls f with
 |some g=>g args M
 |none=>callF f args M
def sS(ih:Code->St->Option (cQ×St))(c:Code):Nat->Code->St->Option (cQ×St)
 |0,_,_=>none
 |n+1,d,s=>match ih d s with
  |some (.goto l,s')=>match findLabel c l with
   |some rest=>sS ih c n rest s'
   |none=>some (.goto l,s')
  |r=>r
def qW(P:Program)(GL:List Nat)(SP:dG)(ih:Code->St->Option (cQ×St))(c:Code)(s:St):Option (cQ×St):=
 match c with
 | .skip=>some (.normal,s)
 | .region _ ops draw=>
  bif draw then
   bif kL ops then
    match oO P GL (fP SP (mM P ih)) ops s with
    |some s'=>some (.normal,s')
    |none=>none
   else none
  else match wW P GL (fP SP (mM P ih)) ops ops.toList s with
   |some s'=>some (.normal,s')
   |none=>none
 | .seq a b=>match ih a s with
  |some (.normal,s')=>ih b s'
  |r=>r
 | .cond c x y=>match ev GL s.T c with
  |some (.bool t)=>ih (bif t then x else y) s
  |_=>none
 | .block id b=>match SP.blocks id with
  |some g=>g b s
  |none=>match ih b s with
   |some (.exit i,s')=>bif Nat.beq i id then some (.normal,s') else some (.exit i,s')
   |r=>r
 | .loop b=>match ih b s with
  |some (.normal,s')=>ih (.loop b) s'
  |r=>r
 | .exit id=>some (.exit id,s)
 | .ret=>some (.ret,s)
 | .label _=>some (.normal,s)
 | .goto l=>some (.goto l,s)
 | .scope c=>sS ih c 100000 c s
 |_=>none
def Cf(P:Program)(GL:List Nat)(SP:dG)(n:Nat):Code->St->Option (cQ×St):=
 Nat.rec (fun _ _=>none) (fun _ ih=>qW P GL SP ih) n
def arun(P:Program)(GL:List Nat)(SP:dG)(n:Nat):FuncId->List Value->aA->Option (Value×aA):=mM P (Cf P GL SP n)
def Bq:dG:=⟨fun _=>none,fun _=>none⟩
end
end Go.Am
