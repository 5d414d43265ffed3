/-
  Package hier: each of its laws for every argument; no conditions. The last text states which.
-/
import Derived.WalkKit
import Derived.Maps.Keyed
set_option linter.unusedVariables false
set_option linter.unusedSimpArgs false
namespace Go.Am
open Go
noncomputable section
inductive Tr(α:Type) where
 |nil
 |node (v:Option α) (l r:Tr α)
def Tr.get{α:Type}(t:Tr α):Nat->Option α:=
 Tr.rec (motive:=fun _=>Nat->Option α) (fun _=>none) (fun v _ _ ihl ihr n=>Nat.rec (motive:=fun _=>Option α) v (fun m _=>Bool.rec (ihr (m/2)) (ihl (m/2)) (Nat.beq (m%2) 0)) n) t
def Tr.val{α:Type}:Tr α->Option α
 | .nil=>none
 | .node v _ _=>v
def Tr.left{α:Type}:Tr α->Tr α
 | .nil=> .nil
 | .node _ l _=>l
def Tr.right{α:Type}:Tr α->Tr α
 | .nil=> .nil
 | .node _ _ r=>r
def Tr.setF{α:Type}(a:Option α)(f:Nat):Tr α->Nat->Tr α:=
 Nat.rec (motive:=fun _=>Tr α->Nat->Tr α) (fun t _=>t) (fun _ ih t n=>
  Nat.rec (motive:=fun _=>Tr α) (Tr.rec (motive:=fun _=>Tr α) (.node a .nil .nil) (fun _ l r _ _=> .node a l r) t)
   (fun m _=>Bool.rec (Tr.rec (motive:=fun _=>Tr α) (.node none .nil (ih .nil (m/2))) (fun v l r _ _=> .node v l (ih r (m/2))) t)
    (Tr.rec (motive:=fun _=>Tr α) (.node none (ih .nil (m/2)) .nil) (fun v l r _ _=> .node v (ih l (m/2)) r) t) (Nat.beq (m%2) 0)) n) f
def Tr.set{α:Type}(t:Tr α)(n:Nat)(a:Option α):Tr α:=Tr.setF a (n+1) t n
structure aS where
 cs:List Value
 elem:TypeId
 esz:Nat
 wf:Nat
 app:Bool
structure aA where
 blks:Tr aS
 next:Nat
 hide:List (Nat×Nat)
 log:List Nat
def aX:List (Nat×Nat)->Nat->Bool
 | [],_=>false
 |(a,b)::l,n=>(Nat.ble a n&&Nat.blt n b)||aX l n
def nZ:Nat:=97
def dG(b:aS):Bool:=b.app&&Nat.beq b.esz nZ
def Pc(b:Option aS):Option aS:=match b with|some b=>bif dG b then none else some b|none=>none
def mapO(b:Option aS):Option aS:=match b with|some b=>bif dG b then some b else none|none=>none
def aA.getA(M:aA)(id:Nat):Option aS:=bif Nat.blt id M.next&& !aX M.hide id then M.blks.get id else none
def aA.get(M:aA)(id:Nat):Option aS:=Pc (M.getA id)
def aA.getM(M:aA)(id:Nat):Option aS:=mapO (M.getA id)
def aA.put(M:aA)(id:Nat)(b:Option aS):aA:={M with blks:=M.blks.set id b,log:=id::M.log}
def aA.alloc(M:aA)(b:aS):aA:={M with blks:=M.blks.set M.next (some b),next:=M.next+1}
def leaf:Value->Bool
 | .bool _| .int _ _| .float _ _| .complex _ _ _| .string _| .pointer none| .slice none 0 0| .map none| .chan none| .nilFunc| .nilIface=>true
 |_=>false
def nB:Fn->Bool
 | .yield _=>true
 |_=>false
mutual
def flat:Value->Bool
 | .bool _| .int _ _| .float _ _| .complex _ _ _| .string _| .nilFunc| .nilIface=>true
 | .pointer a=>a.isNone
 | .slice a l c=>a.isNone&&Nat.beq l 0&&Nat.beq c 0
 | .map r=>r.isNone
 | .chan r=>r.isNone
 | .func fn first captured=> !nB fn&&(oB first&&oB captured)
 | .iface _ v=>flat v
 | .agg cs=>oB cs
 | .tuple vs=>oB vs
def oB:Array Value->Bool
 |⟨l⟩=>dH l
def dH:List Value->Bool
 | []=>true
 |v::l=>flat v&&dH l
end
def isCell:Value->Bool
 | .agg _| .tuple _=>false
 |_=>true
structure St where
 T:Tr Value
 n:Nat
 M:aA
def ev(GL:List Nat)(T:Tr Value):Operand->Option Value
 | .tmp t=>T.get t
 | .const v=>bif flat v then some v else none
 | .global g=>bif GL.any (Nat.beq g) then some (.pointer (some ⟨g,0,none⟩)) else none
 | .func f=>some (.func (.func f) #[] #[])
def pS(GL:List Nat)(T:Tr Value):List Operand->Option (List Value)
 | []=>some []
 |x::l=>match ev GL T x,pS GL T l with
  |some v,some vs=>some (v::vs)
  |_,_=>none
def cB{α:Type}(P:Program):Sem α->Option α
 | .pure a=>some a
 | .program k=>cB P (k P)
 | .mark _ k=>cB P k
 |_=>none
inductive AR where
 |val (v:Value)
 |skip
abbrev Fd:=Option (Nat×AR×aA)
def dY:TypeDesc->Bool
 | .struct _| .array _ _=>true
 |_=>false
def dB:Nat->List Value->Option (List Value)
 |0,_=>some []
 |n+1,v::l=>match dB n l with|some r=>some (v::r)|none=>none
 |_+1,[]=>none
def bG(P:Program)(t:TypeId)(a:Addr)(M:aA):Option Value:=
 match P.underlying t,M.get a.block with
 |some d,some b=>
  bif dY d then
   match P.info? t with
   |some i=>match dB i.size (b.cs.drop a.off) with
    |some l=>some (.agg l.toArray)
    |none=>none
   |none=>none
  else b.cs[a.off]?
 |_,_=>none
def splice:List Value->Nat->List Value->List Value
 |cs,_,[]=>cs
 | [],_,_=> []
 |_::cs,0,v::l=>v::splice cs 0 l
 |c::cs,n+1,l=>c::splice cs n l
def eL(P:Program)(t:TypeId)(a:Addr)(v:Value)(M:aA):Option aA:=
 match M.get a.block,P.info? t with
 |some b,some i=>
  bif Nat.beq v.cells.toList.length i.size&&v.cells.toList.all isCell&&Nat.ble b.wf a.off&&Nat.ble (a.off+v.cells.toList.length) b.cs.length then
   some (M.put a.block (some {b with cs:=splice b.cs a.off v.cells.toList}))
  else none
 |_,_=>none
def Vb(P:Program)(t:TypeId):Option Nat:=match P.info? t with|some i=>some i.size|none=>none
def Ml(P:Program):Nat->TypeId->Bool
 |0,_=>false
 |n+1,t=>match P.underlying t with
  |some (.struct fields)=>match fields[0]? with
   |some f=>match P.underlying f.type with
    |some (.pointer e)=>Nat.beq e t
    |_=>Ml P n f.type
   |none=>false
  |_=>false
def Yl(P:Program)(elem:TypeId):Option Nat:=
 bif Ml P 3 elem then some 0 else
 match P.underlying elem with
 |some (.array _ e)=>Vb P e
 |some _=>Vb P elem
 |none=>none
def nV(z:Nat)(elem:TypeId)(cs:List Value)(M:aA):aA:=M.alloc {cs,elem,esz:=z,wf:=0,app:=true}
def made(v:Value)(M:aA):Fd:=some (1,.val v,M)
def cK(P:Program)(elem:TypeId)(M:aA):Fd:=
 match P.info? elem,Yl P elem with
 |some i,some z=>match i.zero with
  |some v=>bif flat v&&v.cells.toList.all isCell then made (.pointer (some ⟨M.next,0,none⟩)) (nV z elem v.cells.toList M) else none
  |none=>none
 |_,_=>none
def eW(P:Program)(elem:TypeId)(v:Value)(M:aA):Fd:=
 match Yl P elem with
 |some z=>bif v.cells.toList.all isCell then made (.pointer (some ⟨M.next,0,none⟩)) (nV z elem v.cells.toList M) else none
 |none=>none
def vQ(P:Program)(s:TypeId)(x:Value)(field:Nat):Option Value:=
 match P.underlying s,x with
 |some (.struct fields),.pointer (some a)=>
  match fields[field]? with
  |some f=>match P.info? f.type with
   |some i=>bif Nat.beq i.size 0 then none else some (.pointer (some (a.add f.offset)))
   |none=>none
  |none=>none
 |_,_=>none
def apart(P:Program)(t:TypeId)(cs:List Value)(off:Nat):Option Value:=
 match P.underlying t with
 |some d=>
  bif dY d then
   match P.info? t with
   |some i=>some (.agg ((cs.drop off).take i.size).toArray)
   |none=>none
  else cs[off]?
 |none=>none
def Ni(P:Program)(s:TypeId)(x:Value)(field:Nat):Option Value:=
 match P.underlying s,x with
 |some (.struct fields),.agg cs=>
  match fields[field]? with
  |some f=>apart P f.type cs.toList f.offset
  |none=>none
 |_,_=>none
def Oe(i:Int)(n:Nat):Bool:=decide (0<=i)&&decide (i<(n:Int))
def oW(P:Program)(t:TypeId)(x ix:Value):Option Value:=
 match P.underlying t,x,ix with
 |some (.slice elem),.slice (some a) len _,.int _ i=>
  match P.info? elem with
  |some e=>bif Oe i len then some (.pointer (some (a.add (i.toNat*e.size)))) else none
  |none=>none
 |some (.array len elem),.pointer (some a),.int _ i=>
  match P.info? elem with
  |some e=>bif Oe i len then some (.pointer (some (a.add (i.toNat*e.size)))) else none
  |none=>none
 |_,_,_=>none
def Nj(P:Program)(t:TypeId)(x ix:Value):Option Value:=
 match P.underlying t,x,ix with
 |some (.array len elem),.agg cs,.int _ i=>
  match P.info? elem with
  |some e=>bif Oe i len then apart P elem cs.toList (i.toNat*e.size) else none
  |none=>none
 |_,_,_=>none
def mP(x:Option Value)(most dflt:Nat):Option Nat:=
 match x with
 |none=>some dflt
 |some (.int _ i)=>bif decide (0<=i)&&decide (i<=(most:Int)) then some i.toNat else none
 |_=>none
def vU(P:Program)(t:TypeId)(x:Value)(lo hi mx:Option Value)(M:aA):Option Value:=
 bif mx.isSome&&hi.isNone then none else
 match P.underlying t,x with
 |some (.slice elem),.slice (some a) len cap=>
  match P.info? elem,M.get a.block,mP mx len len with
  |some e,some b,some m=>match mP hi m len with
   |some h=>match mP lo h 0 with
    |some l=>bif Nat.beq b.esz e.size&&a.spot.isNone then some (.slice (some (a.add (l*e.size))) (h-l) (bif mx.isSome then m-l+1 else bif Nat.beq h len&& !(Nat.beq cap len) then cap-l else h-l)) else none
    |none=>none
   |none=>none
  |_,_,_=>none
 |some (.slice elem),.slice none 0 0=>
  match P.info? elem,mx,mP hi 0 0 with
  |some _,none,some h=>match mP lo h 0 with
   |some _=>some (.slice none 0 0)
   |none=>none
  |_,_,_=>none
 |some (.array n elem),.pointer (some a)=>
  match P.info? elem,M.get a.block,mP mx n n with
  |some e,some b,some m=>match mP hi m n with
   |some h=>match mP lo h 0 with
    |some l=>bif Nat.beq b.esz e.size&&Nat.ble (a.off+n*e.size) b.cs.length then some (.slice (some (a.add (l*e.size))) (h-l) (bif Nat.beq h m then h-l+1 else h-l)) else none
    |none=>none
   |none=>none
  |_,_,_=>none
 |_,_=>none
def kH:Nat->List Value->List Value
 |0,_=> []
 |n+1,z=>z++kH n z
def bV(P:Program)(t:TypeId)(len cap:Value)(M:aA):Fd:=
 match P.underlying t,len,cap with
 |some (.slice elem),.int _ l,.int _ c=>
  match P.info? elem with
  |some e=>match e.zero with
   |some z=>
    bif flat z&&z.cells.toList.all isCell&&Nat.beq z.cells.toList.length e.size&& !Nat.beq e.size 0&&decide (0<=l)&&decide (l<=c)&&decide (c<2^37)&&Nat.ble e.bytes 1024 then
     made (.slice (some ⟨M.next,0,none⟩) l.toNat (bif decide (l=c) then l.toNat+1 else l.toNat)) (nV e.size elem (kH l.toNat z.cells.toList) M)
    else none
   |none=>none
  |none=>none
 |_,_,_=>none
def vA(place:Nat->Option (Nat×Nat))(cells:List Value):List (Nat×Value)->Option (List Value)
 | []=>some cells
 |(i,v)::rest=>
  match place i with
  |none=>none
  |some (off,size)=>
   bif Nat.beq v.cells.toList.length size&&Nat.ble (off+v.cells.toList.length) cells.length then vA place (splice cells off v.cells.toList) rest
   else none
def nA(GL:List Nat)(T:Tr Value):List (Nat×Operand)->Option (List (Nat×Value))
 | []=>some []
 |(i,x)::l=>match ev GL T x,nA GL T l with
  |some v,some vs=>some ((i,v)::vs)
  |_,_=>none
def yG(P:Program):List Field->Option (List (Nat×Nat))
 | []=>some []
 |f::l=>match P.info? f.type,yG P l with
  |some i,some r=>some ((f.offset,i.size)::r)
  |_,_=>none
def Nd(P:Program)(t:TypeId)(parts:List (Nat×Value)):Option Value:=
 match P.info? t,P.underlying t with
 |some i,some d=>match i.zero with
  |some z=>bif flat z then
    match d with
    | .struct fields=>match yG P fields.toList with
     |some pl=>match vA (pl[·]?) z.cells.toList parts with
      |some cs=>some (.agg cs.toArray)
      |none=>none
     |none=>none
    | .array _ elem=>match P.info? elem with
     |some e=>match vA (fun i=>some (i*e.size,e.size)) z.cells.toList parts with
      |some cs=>some (.agg cs.toArray)
      |none=>none
     |none=>none
    |_=>none
   else none
  |none=>none
 |_,_=>none
def bK(P:Program)(t:TypeId)(len:Nat)(parts:List (Nat×Value))(M:aA):Fd:=
 match P.underlying t with
 |some (.slice elem)=>match P.info? elem with
  |some e=>match e.zero with
   |some z=>
    bif flat z&&z.cells.toList.all isCell&&Nat.beq z.cells.toList.length e.size&& !Nat.beq e.size 0&&Nat.ble (len*e.size) (2^24) then
     match vA (fun i=>some (i*e.size,e.size)) (kH len z.cells.toList) parts with
     |some cs=>bif cs.all isCell then made (.slice (some ⟨M.next,0,none⟩) len (len+1)) (nV e.size elem cs M) else none
     |none=>none
    else none
   |none=>none
  |none=>none
 |_=>none
def tL(P:Program)(x:Value)(asserted:TypeId)(commaOk:Bool):Option Value:=
 match P.underlying asserted,x with
 |some (.interface _),_=>none
 |some _,.iface t v=>
  bif Nat.beq t asserted then some (bif commaOk then .tuple #[v,.bool true] else v)
  else bif commaOk then match P.info? asserted with
   |some i=>match i.zero with
    |some z=>bif flat z then some (.tuple #[z,.bool false]) else none
    |none=>none
   |none=>none
  else none
 |some _,.nilIface=>
  bif commaOk then match P.info? asserted with
   |some i=>match i.zero with
    |some z=>bif flat z then some (.tuple #[z,.bool false]) else none
    |none=>none
   |none=>none
  else none
 |_,_=>none
def Dl:TypeDesc->Bool
 | .interface _=>true
 |_=>false
def Vt(P:Program)(t:TypeId)(x y:Value):Option Bool:=
 match P.underlying t,x,y with
 |some (.pointer _),.pointer none,.pointer b=>some b.isNone
 |some (.pointer _),.pointer (some _),.pointer none=>some false
 |some (.pointer e),.pointer (some a),.pointer (some b)=>
  match P.info? e with
  |some i=>bif Nat.beq i.size 0 then none else bif Nat.beq a.block b.block then some (Nat.beq a.off b.off) else none
  |none=>none
 |some (.interface _),.nilIface,.iface _ _=>some false
 |some (.interface _),.iface _ _,.nilIface=>some false
 |some (.interface _),.iface s _,.iface u _=>bif Nat.beq s u then none else some false
 |some (.slice _),.slice none _ _,.slice b _ _=>some b.isNone
 |some (.slice _),.slice (some _) _ _,.slice none _ _=>some false
 |some (.func _ _ _),.nilFunc,.func _ _ _=>some false
 |some (.func _ _ _),.func _ _ _,.nilFunc=>some false
 |_,_,_=>none
def range(cs:List Value)(off n:Nat):Option (List Value):=dB n (cs.drop off)
def jH(s:ByteArray)(n:Nat):List Value:=(s.data.toList.take n).map fun b=>Value.int .u8 b.toNat
def iR(M:aA)(size n:Nat):Value->Option (List Value)
 | .slice (some a) _ _=>match M.get a.block with
  |some b=>range b.cs a.off (n*size)
  |none=>bif Nat.beq n 0 then some [] else none
 | .slice none _ _=>bif Nat.beq n 0 then some [] else none
 | .string s=>some (jH s n)
 |_=>none
def mV:Value->Option Nat
 | .slice _ n _=>some n
 | .string s=>some s.size
 |_=>none
def Ji(e:TypeInfo):Bool:=match e.zero with|some z=>Nat.beq z.cells.toList.length e.size|none=>false
def vJ(e:TypeInfo)(n:Nat):Bool:= !Nat.beq e.size 0&&Nat.ble n (2^40)&&Nat.ble (n*e.bytes) (2^40)&&Nat.ble e.bytes (2^40)&&Ji e
def jB:TypeDesc->Bool
 | .int _=>true
 |_=>false
def xQ(P:Program)(elem:TypeId):Bool:=
 match P.underlying elem with
 |some (.array n _)=>Nat.beq n 2
 |some (.struct fields)=>match fields.toList with
  | [a,b,c]=>Nat.beq a.type b.type&&Nat.beq b.type c.type
  |_=>false
 |_=>false
def cU(P:Program)(argTypes:List TypeId)(s x:Value)(M:aA):Fd:=
 match argTypes with
 | [sT,xT]=>match P.underlying sT,P.underlying xT with
  |some (.slice elem),some xd=>match P.info? elem,mV x with
   |some e,some n=>
    match jB xd,iR M e.size n x,s with
    |false,some new,.slice none 0 0=>
     bif !vJ e n|| !(new.all isCell)|| !(Nat.beq new.length (n*e.size)) then none
     else bif Nat.beq n 0 then some (1,.val (.slice none 0 0),M)
     else made (.slice (some ⟨M.next,0,none⟩) n n) (nV e.size elem new M)
    |false,some new,.slice (some a) len cap=>
     match M.get a.block with
     |some b=>match range b.cs a.off (len*e.size) with
      |some old=>
       bif !vJ e (len+n)|| !(new.all isCell)|| !(Nat.beq new.length (n*e.size))|| !(Nat.beq b.esz e.size)|| !(Nat.beq b.elem elem)|| !a.spot.isNone then none
       else bif Nat.beq n 0 then some (1,.val s,M)
       else bif !(Nat.beq cap len) then
        bif Nat.ble cap (len+n) then made (.slice (some ⟨M.next,0,none⟩) (len+n) (len+n)) (nV e.size elem (old++new) M)
        else bif Nat.ble b.wf (a.off+len*e.size)&&Nat.ble (a.off+(len+n)*e.size) b.cs.length then
         some (2,.val (.slice (some a) (len+n) cap),M.put a.block (some {b with cs:=splice b.cs (a.off+len*e.size) new}))
        else none
       else bif b.app&&Nat.ble b.wf (a.off+len*e.size) then
        bif xQ P elem&& !(Nat.beq (len*e.size) 0) then
         some (2,.val (.slice (some ⟨M.next,0,none⟩) (len+n) (len+n)),(M.put a.block (some {b with cs:=b.cs.take (a.off+len*e.size),wf:=a.off+len*e.size,app:=false})).alloc {cs:=old++new,elem:=b.elem,esz:=b.esz,wf:=len*e.size,app:=true})
        else bif Nat.beq b.wf 0||Nat.blt a.off b.wf then
        some (2,.val (.slice (some ⟨M.next,0,none⟩) (len+n) (len+n)),(M.put a.block none).alloc {cs:=old++new,elem:=b.elem,esz:=b.esz,wf:=b.wf-a.off,app:=true})
       else none
       else none
      |none=>none
     |none=>none
    |_,_,_=>none
   |_,_=>none
  |_,_=>none
 |_=>none
def Jp(P:Program)(argTypes:List TypeId)(d x:Value)(M:aA):Fd:=
 match argTypes with
 |dT::_=>match P.underlying dT with
  |some (.slice elem)=>match P.info? elem,mV x,d with
   |some _,some _,.slice none 0 0=>some (1,.val (.int .i64 0),M)
   |some e,some xl,.slice (some a) dl _=>
    match iR M e.size (Nat.min xl dl) x,M.get a.block with
    |some l,some b=>
     bif !(l.all isCell)|| !(Nat.ble b.wf a.off)|| !(Nat.ble (a.off+l.length) b.cs.length)|| !a.spot.isNone then none
     else some (2,.val (.int .i64 (Nat.min xl dl)),M.put a.block (some {b with cs:=splice b.cs a.off l}))
    |_,_=>none
   |_,_,_=>none
  |_=>none
 |_=>none
def Hs(P:Program)(argTypes:List TypeId)(x:Value)(M:aA):Fd:=
 match argTypes,x with
 |t::_,.slice (some a) n _=>match P.underlying t with
  |some (.slice elem)=>match(P.info? elem).bind (·.zero),M.get a.block with
   |some z,some b=>
    bif flat z&&z.cells.toList.all isCell&& !Nat.beq (n*z.cells.toList.length) 0&&Nat.ble b.wf a.off&&Nat.ble (a.off+n*z.cells.toList.length) b.cs.length&&a.spot.isNone then
     some (2,.val (.tuple #[]),M.put a.block (some {b with cs:=splice b.cs a.off (kH n z.cells.toList)}))
    else none
   |_,_=>none
  |_=>none
 |_,_=>none
def pA(P:Program):Nat->TypeId->TypeId->Bool
 |0,_,_=>false
 |n+1,e,u=> !(Nat.beq (P.cellsOf e) 0)&&(Nat.beq e u||match P.underlying e with
  |some (.struct fields)=>match fields[0]? with
   |some f=> !(P.stoodInHeld e)&&Nat.beq f.offset 0&&pA P n f.type u
   |none=>false
  |_=>false)
def hZ:List Value->Option (List UInt8)
 | []=>some []
 | .int .u8 n::l=>match hZ l with
  |some r=>some (UInt8.ofNat n.toNat::r)
  |none=>none
 |_=>none
def qZ(P:Program)(src dst:TypeId)(x:Value)(M:aA):Fd:=
 match P.underlying src,P.underlying dst,x with
 |some .string,some (.slice e),.string s=>
  match P.underlying e,P.info? e with
  |some (.int .u8),some i=>bif Nat.beq i.size 1&&Nat.ble s.size (2^40) then made (.slice (some ⟨M.next,0,none⟩) s.size s.size) (nV i.size e (jH s s.size) M) else none
  |_,_=>none
 |some (.slice e),some .string,.slice (some a) len _=>
  match P.underlying e,M.get a.block with
  |some (.int .u8),some b=>match(bif a.spot.isNone then range b.cs a.off len else none) with
   |some l=>match hZ l with
    |some bs=>some (1,.val (.string ⟨bs.toArray⟩),M)
    |none=>none
   |none=>none
  |_,_=>none
 |some (.pointer t),some .unsafePointer,.pointer (some a)=>
  match P.info? t,M.get a.block with
  |some j,some b=>bif Nat.beq j.size 0|| !(Nat.blt a.off b.cs.length) then none else some (1,.val (.pointer (some a)),M)
  |_,_=>none
 |some .unsafePointer,some (.pointer u),.pointer (some a)=>
  match P.info? u,M.get a.block with
  |some j,some b=>bif Nat.beq j.size 0|| !(Nat.beq b.esz 0)|| !(Nat.beq a.off 0)|| !(Nat.ble (P.cellsOf b.elem) b.cs.length)|| !(pA P 3 b.elem u) then none else some (1,.val (.pointer (some a)),M)
  |_,_=>none
 |_,_,_=>none
def Hx(P:Program)(argTypes:List TypeId)(x y:Value)(M:aA):Fd:=
 match argTypes,x,y with
 |pt::_,.pointer (some a),.int .i64 n=>match P.underlying pt,M.get a.block with
  |some (.pointer e),some b=>match range b.cs a.off n.toNat with
   |some l=>match hZ l with
    |some bs=>bif decide (0<n)&&decide (n<=1099511627776)&&Nat.beq b.elem e&&b.app&&Nat.beq (P.cellsOf e) 1 then
      some (2,.val (.string ⟨bs.toArray⟩),M.put a.block (some {b with wf:=b.cs.length,app:=false}))
     else none
    |none=>none
   |none=>none
  |_,_=>none
 |_,_,_=>none
def Nk(P:Program)(g:FuncId)(args:List Value)(M:aA):Fd:=
 match P.funcs[g]?,args with
 |some fn,[x]=>bif fn.name== "internal/abi.NoEscape" &&fn.origin== "" &&fn.body.isNone then some (1,.val x,M) else none
 |_,_=>none
def Of(P:Program)(k:TypeId):Bool:=
 match P.underlying k with
 |some (.array _ _)=>P.keyTypeAt 5 k&&P.tiled 5 k
 |some (.struct _)=>P.keyTypeAt 5 k&&P.tiled 5 k
 |some (.int _)|some .string|some .bool=>true
 |_=>false
def Hz:Value->Value->Bool
 | .bool a,.bool b=>a==b
 | .int k a,.int k' b=>decide (k=k')&&decide (a=b)
 | .string a,.string b=>decide (a=b)
 |_,_=>false
def uK:List Value->List Value->Bool
 | [],[]=>true
 |a::l,b::m=>Hz a b&&uK l m
 |_,_=>false
def pF:Value->Value->Bool
 | .agg ⟨x⟩,.agg ⟨y⟩=>uK x y
 |a,b=>Hz a b
def Gs(P:Program)(k:TypeId)(key:Value):Bool:=Of P k&&(keyOf P k key).isSome&&flat key&&pF key key
def xS(key:Value):List Value->Option Value
 |k::v::l=>bif pF key k then some v else xS key l
 |_=>none
def Iq(key val:Value):List Value->List Value
 |k::v::l=>bif pF key k then k::val::l else k::v::Iq key val l
 |_=> [key,val]
def Fc(P:Program)(t:TypeId):Option Value:=
 match P.info? t with
 |some i=>match i.zero with
  |some z=>bif flat z then some z else none
  |none=>none
 |none=>none
def Bq(P:Program)(t:TypeId)(x key:Value)(ok:Bool)(M:aA):Fd:=
 match P.underlying t,x with
 |some (.map k e),.map (some r)=>match M.getM r,Fc P e with
  |some b,some z=>bif Nat.beq b.elem k&&Gs P k key then
    match xS key b.cs with
    |some v=>some (1,.val (bif ok then .tuple #[v,.bool true] else v),M)
    |none=>some (1,.val (bif ok then .tuple #[z,.bool false] else z),M)
   else none
  |_,_=>none
 |_,_=>none
def rV(P:Program)(t:TypeId)(x key v:Value)(M:aA):Fd:=
 match P.underlying t,x with
 |some (.map k _),.map (some r)=>match M.getM r with
  |some b=>bif Nat.beq b.elem k&&Gs P k key then some (2,.skip,M.put r (some {b with cs:=Iq key v b.cs})) else none
  |none=>none
 |_,_=>none
def Tk:Option Value->Bool
 |none=>true
 |some (.int _ _)=>true
 |_=>false
def xC(P:Program)(t:TypeId)(hint:Option Value)(M:aA):Fd:=
 match P.underlying t with
 |some (.map k _)=>bif Tk hint then some (1,.val (.map (some M.next)),M.alloc ⟨[],k,nZ,0,true⟩) else none
 |_=>none
abbrev cT:=FuncId->List Value->aA->Option (Value×aA)
def kR(n:Nat):List Nat->List Nat
 | []=> []
 |x::l=>bif Nat.blt x n then x::kR n l else kR n l
def kW(callF:cT)(f:FuncId)(args:List Value)(M:aA):Fd:=
 match callF f args {M with log:= []} with
 |some (v,M')=>
  match kR M.next M'.log with
  | []=>some (1,.val v,{M' with log:=M.log,hide:=M.hide})
  |l=>some (2,.val v,{M' with log:=l++M.log,hide:=M.hide})
 |none=>none
def YB:Nat:=1000000000
def Hy(callF:cT)(fv:Value)(args:List Value)(M:aA):Fd:=
 match fv with
 | .func (.yield r) ⟨[]⟩ ⟨[]⟩=>kW callF (YB+r) args M
 |_=>none
def fC(P:Program)(f:FuncId):Bool:=
 match P.funcs[f]? with
 |some fn=>fn.body.isSome
 |none=>false
def jR(P:Program)(GL:List Nat)(o:Oper)(T:Tr Value):Option AR:=
 match pS GL T o.op.operands.toList with
 |some vs=>
  bif dH vs then
   match cB P (execOp (fun x=>(ev GL T x).getD undef) o) with
   |some (.value v)=>bif flat v then some (.val v) else none
   |_=>none
  else none
 |none=>none
def zW:Value->Option (FuncId×List Value×List Value)
 | .func (.func f) first captured=>some (f,first.toList,captured.toList)
 |_=>none
def Ij:TypeDesc->Bool
 | .pointer _=>true
 |_=>false
def Br(P:Program)(t:TypeId)(name:String):Option FuncId:=
 match P.info? t with
 |some i=>match i.methods.find? (·.name==name) with
  |some m=>match m.path.toList with
   | []=>match m.func,P.underlying t with
    |some (f,b),some d=>bif b==Ij d then some f else none
    |_,_=>none
   |_=>none
  |none=>none
 |none=>none
def yL(v:Option Value):Option AR:=match v with|some v=>some (.val v)|none=>none
def kF(P:Program)(GL:List Nat)(o:Oper)(T:Tr Value)(b:Option Value):Option AR:=
 match jR P GL o T with
 |some r=>some r
 |none=>yL b
def fE(P:Program)(GL:List Nat)(o:Oper)(T:Tr Value):Option AR:=
 match o.op with
 | .move x| .assign x=>yL (ev GL T x)
 | .pick c a b=>match ev GL T c with
  |some (.bool t)=>yL (ev GL T (bif t then a else b))
  |_=>none
 | .build t parts=>match nA GL T parts.toList with|some ps=>yL (Nd P t ps)|none=>none
 | .nilCheck x=>match ev GL T x with
  |some (.pointer (some a))=>some (.val (.pointer (some a)))
  |some (.iface t v)=>some (.val (.iface t v))
  |some (.func (.func f) x y)=>some (.val (.func (.func f) x y))
  |_=>none
 | .binOp op t x y _=>kF P GL o T (match op,ev GL T x,ev GL T y with
   | .eql,some a,some b=>match Vt P t a b with|some r=>some (.bool r)|none=>none
   | .neq,some a,some b=>match Vt P t a b with|some r=>some (.bool (!r))|none=>none
   |_,_,_=>none)
 | .makeInterface xT x=>match P.underlying xT,ev GL T x with
  |some d,some v=>bif Dl d then none else some (.val (.iface xT v))
  |_,_=>none
 | .makeFunc fn first captured=>match pS GL T first.toList,pS GL T captured.toList with
  |some a,some b=>bif nB fn then none else some (.val (.func fn a.toArray b.toArray))
  |_,_=>none
 | .fieldAddr s x f=>match ev GL T x with|some v=>yL (vQ P s v f)|none=>none
 | .field s x f=>match ev GL T x with|some v=>yL (Ni P s v f)|none=>none
 | .indexAddr t x ix=>match ev GL T x,ev GL T ix with|some v,some i=>yL (oW P t v i)|_,_=>none
 | .index t x ix=>kF P GL o T (match ev GL T x,ev GL T ix with|some v,some i=>Nj P t v i|_,_=>none)
 | .typeAssert x _ asserted ok=>match ev GL T x with|some v=>yL (tL P v asserted ok)|none=>none
 | .extract x i=>match ev GL T x with|some (.tuple vs)=>yL vs[i]?|_=>none
 | .call c=>match c.callee with
  | .builtin .len=>kF P GL o T (match pS GL T c.args.toList,(c.argTypes[0]?).bind (P.underlying ·) with
    |some [.slice (some _) n _],some (.slice _)=>some (.int .i64 n)
    |_,_=>none)
  | .value f=>match ev GL T f with
   |some fv=>match zW fv with
    |some (g,_,_)=>bif fC P g then none else jR P GL o T
    |none=>none
   |none=>none
  | .builtin .append=>none
  | .builtin .copy=>none
  | .builtin .clear=>none
  | .builtin .unsafeSliceData=>kF P GL o T (match pS GL T c.args.toList with
    |some [.slice (some a) n _]=>bif Nat.beq n 0 then none else some (.pointer (some a))
    |_=>none)
  |_=>jR P GL o T
 | .slice _ x _ _ _=>match ev GL T x with
  |some (.string _)=>jR P GL o T
  |_=>none
 | .convert _ dst x=>match P.underlying dst with
  |some (.slice _)=>none
  |_=>match ev GL T x with
   |some (.slice (some _) _ _)=>none
   |_=>jR P GL o T
 | .select _ _| .load _ _| .store _ _ _| .alloc _| .box _ _| .buildSlice _ _ _| .makeSlice _ _ _=>none
 |_=>jR P GL o T
def fF(P:Program)(GL:List Nat)(callF:cT)(o:Oper)(T:Tr Value)(M:aA):Fd:=
 match o.op with
 | .alloc elem=>cK P elem M
 | .box elem x=>match ev GL T x with|some v=>eW P elem v M|none=>none
 | .buildSlice t len parts=>match nA GL T parts.toList with|some ps=>bK P t len ps M|none=>none
 | .load t x=>match ev GL T x with
  |some (.pointer (some a))=>match bG P t a M with
   |some v=>some (1,.val v,M)
   |none=>none
  |_=>none
 | .store t x y=>match ev GL T x,ev GL T y with
  |some (.pointer (some a)),some v=>match eL P t a v M with
   |some M'=>some (2,.skip,M')
   |none=>none
  |_,_=>none
 | .convert src dst x=>match ev GL T x with|some v=>qZ P src dst v M|none=>none
 | .makeSlice t l c=>match ev GL T l,ev GL T c with|some l,some c=>bV P t l c M|_,_=>none
 | .slice t x lo hi mx=>match ev GL T x,pS GL T (lo.toList++hi.toList++mx.toList) with
   |some v,some _=>match vU P t v (lo.bind (ev GL T)) (hi.bind (ev GL T)) (mx.bind (ev GL T)) M with
    |some r=>some (1,.val r,M)
    |none=>none
   |_,_=>none
 | .call c=>
  match c.callee with
  | .value f=>match ev GL T f,pS GL T c.args.toList with
   |some fv,some args=>match zW fv with
    |some (g,first,captured)=>bif fC P g then kW callF g (first++args++captured) M else Nk P g (first++args++captured) M
    |none=>Hy callF fv args M
   |_,_=>none
  | .invoke x name=>match ev GL T x,pS GL T c.args.toList with
   |some (.iface t v),some args=>match Br P t name with
    |some g=>bif fC P g then kW callF g (v::args) M else none
    |none=>none
   |_,_=>none
  | .builtin .append=>match pS GL T c.args.toList with|some [s,x]=>cU P c.argTypes.toList s x M|_=>none
  | .builtin .copy=>match pS GL T c.args.toList with|some [d,x]=>Jp P c.argTypes.toList d x M|_=>none
  | .builtin .clear=>match pS GL T c.args.toList with|some [x]=>Hs P c.argTypes.toList x M|_=>none
  | .builtin .unsafeString=>match pS GL T c.args.toList with|some [x,y]=>Hx P c.argTypes.toList x y M|_=>none
  |_=>none
 | .makeMap t hint=>match pS GL T hint.toList with
  |some _=>xC P t (hint.bind (ev GL T)) M
  |none=>none
 | .lookup t x k ok=>match ev GL T x,ev GL T k with|some v,some key=>Bq P t v key ok M|_,_=>none
 | .mapUpdate t x k v=>match ev GL T x,ev GL T k,ev GL T v with|some m,some key,some u=>rV P t m key u M|_,_,_=>none
 |_=>none
def jV(P:Program)(GL:List Nat)(callF:cT)(o:Oper)(T:Tr Value)(M:aA):Fd:=
 match fE P GL o T with
 |some r=>some (0,r,M)
 |none=>match fF P GL callF o T M with
  |some (0,_,_)=>none
  |r=>r
def eU(ops:Array Oper)(T:Tr Value)(o:Oper):Option Bool:=
 match o.guard with
 |none=>some true
 |some (j,want)=>match(ops[j]?).bind (·.dst) with
  |some d=>match T.get d with
   |some (.bool b)=>some (b==want)
   |some _=>some false
   |none=>none
  |none=>none
def pX(o:Oper)(r:AR)(s:St):Option St:=
 match o.dst,r with
 |none,_=>some s
 |some d,.val v=>bif Nat.blt d s.n then some {s with T:=s.T.set d (some v)} else none
 |some d,.skip=>bif Nat.blt d s.n then some {s with T:=s.T.set d (some undef)} else none
def xF(P:Program)(GL:List Nat)(callF:cT)(ops:Array Oper):List Oper->St->Option St
 | [],s=>some s
 |o::rest,s=>match eU ops s.T o with
  |some true=>match jV P GL callF o s.T s.M with
   |some (_,r,M')=>match pX o r {s with M:=M'} with
    |some s'=>xF P GL callF ops rest s'
    |none=>none
   |none=>none
  |some false=>match pX o .skip s with
   |some s'=>xF P GL callF ops rest s'
   |none=>none
  |none=>none
structure jU where
 ix:Nat
 loud:Nat
 lo:Nat
 hi:Nat
def aU(deps:Nat):List jU->List (Nat×Nat)
 | []=> []
 |d::l=>bif Nat.beq d.loud 0||deps.testBit d.ix||Nat.beq d.lo d.hi then aU deps l else(d.lo,d.hi)::aU deps l
def sB(deps:Nat)(loud:Nat):List jU->Bool
 | []=>true
 |d::l=>(Nat.beq d.loud 0||Nat.beq loud 0||deps.testBit d.ix||(Nat.beq d.loud 1&&Nat.beq loud 1))&&sB deps loud l
def xL(acc:List Nat):List Edge->Nat
 | []=>0
 |e::l=>bif Region.binds .any e then 2^e.on|||(acc[e.on]?).getD 0|||xL acc l else xL acc l
def bC:List Oper->List Nat->List Nat
 | [],acc=>acc
 |o::l,acc=>bC l (acc++ [xL acc o.after.toList])
def Ts(o:Oper):Bool:=match o.op with| .load _ _=>true|_=>false
def Yy(o:Oper):Bool:=match o.op with| .call c=>(match c.callee with| .builtin .append=>true| .builtin _=>false|_=>true)| .store _ _ _=>true|_=>false
def De(i di:Nat):List Oper->List Nat->Nat->Bool
 |o::l,d::ds,j=>(Yy o&&not (di.testBit j)&&not (d.testBit i))||De i di l ds (j+1)
 |_,_,_=>false
def Jq(ops:List Oper):Operand->Option Nat
 | .tmp t=>match ops.find? (fun o=>o.dst==some t) with
  |some o=>(match o.op with| .fieldAddr _ (.tmp y) _=>some y|_=>some t)
  |none=>some t
 |_=>none
def Az(ops:List Oper)(i b:Nat):List Oper->List Nat->Bool
 |o::l,d::ds=>(match o.op with
  | .store _ x _=>d.testBit i&&(match Jq ops x with|some b'=>Nat.beq b b'|none=>false)
  |_=>false)||Az ops i b l ds
 |_,_=>false
def Es(ops:List Oper)(before:List Nat)(i:Nat)(o:Oper):Bool:=
 match o.op with
 | .load _ x=>(match Jq ops x with|some b=>Az ops i b ops before|none=>false)
 |_=>false
def lE(ops:List Oper)(before:List Nat):List Oper->List Nat->Nat->List Nat
 |o::l,d::ds,i=>bif (Ts o&& !(Es ops before i o))&&De i d ops before 0 then i::lE ops before l ds (i+1) else lE ops before l ds (i+1)
 |_,_,_=> []
def fH(b:Nat):List Nat->Bool
 | []=>false
 |x::l=>Nat.beq x b||fH b l
def dC:List Nat->List Nat->Bool
 | [],_=>true
 |b::S,l=>not (fH b l)&&dC S l
def Iu(GL:List Nat)(o:Oper)(T:Tr Value)(n0:Nat):Option Nat:=
 match o.op with
 | .load _ x=>match ev GL T x with
  |some (.pointer (some a))=>bif Nat.blt a.block n0 then some a.block else none
  |_=>none
 |_=>none
def oJ(GL:List Nat)(sl:List Nat)(n0:Nat)(o:Oper)(i:Nat)(T:Tr Value):Option Nat:=bif fH i sl then Iu GL o T n0 else none
def fD(s:St):St:={s with M:={s.M with log:= []}}
def Gd(s s':St):St:={s' with M:={s'.M with log:=s'.M.log++s.M.log}}
def tO(o:Oper):Bool:=o.guard.isNone&&(match o.op with
 | .move _| .assign _| .nilCheck _| .fieldAddr _ _ _| .indexAddr _ _ _| .store _ _ _=>true
 |_=>false)
def gF(o:Oper):Bool:=match o.op with| .store _ _ _=>true|_=>false
def uJ(d:Nat):List Oper->Nat->Bool
 | [],_=>true
 |o::l,i=>(d.testBit i||tO o)&&uJ d l (i+1)
def Ht(d:Nat):List Oper->Nat->Bool
 | [],_=>false
 |o::l,i=>(gF o&& !(d.testBit i))||Ht d l (i+1)
def Uy(o:Oper):Bool:=match o.op with| .call c=>(match c.callee with| .builtin _=>false|_=> !(c.argTypes.toList.all fun t=>Nat.beq t 3||Nat.beq t 4))|_=>false
def Ym(i di:Nat):List Oper->List Nat->Nat->Bool
 |o::l,d::ds,j=>(Uy o&&not (di.testBit j)&&not (d.testBit i))||Ym i di l ds (j+1)
 |_,_,_=>false
def Mk(ops:List Oper)(before:List Nat):List Oper->List Nat->Nat->Bool
 |o::l,d::ds,i=>(Ts o&&Es ops before i o&&Ym i d ops before 0)||Mk ops before l ds (i+1)
 |_,_,_=>false
def zS(ops:List Oper)(before:List Nat):Bool:=Mk ops before ops before 0
def uV(ops:List Oper)(before:List Nat):List Nat:=bif zS ops before then lE ops.dropLast before ops.dropLast before 0 else lE ops before ops before 0
def kY(ops:List Oper)(before:List Nat):Option Oper:=
 match ops[ops.length-1]?,before[ops.length-1]? with
 |some f,some d=>bif gF f&&f.guard.isNone&&f.dst.isNone&&uJ d ops.dropLast 0&&(Ht d ops.dropLast 0||zS ops before) then some f else none
 |_,_=>none
def Bl(o:Oper):Bool:=match o.op with
 | .alloc _| .box _ _| .makeSlice _ _ _| .buildSlice _ _ _=>true
 |_=>false
def tV(o:Oper):Bool:=match o.op with
 | .store _ _ _=>true
 | .call c=>(match c.callee with| .builtin .append=>true|_=>false)
 |_=>false
def Ea(ops:Array Oper)(p:Oper->Bool)(i:Nat):Bool:=match ops[i]? with|some o=>p o|none=>false
def Pr(ops:Array Oper)(o:Oper)(deps loud:Nat):List jU->Bool
 | []=>true
 |d::l=>(Nat.beq d.loud 0||Nat.beq loud 0||deps.testBit d.ix||(Nat.beq d.loud 1&&Nat.beq loud 1)||
   (Bl o&&Nat.beq loud 1&&Ea ops tV d.ix)||(gF o&&Nat.beq d.loud 1&&Ea ops Bl d.ix))&&Pr ops o deps loud l
def mG(ops:Array Oper):Bool:=(kY ops.toList (bC ops.toList [])).isNone
def wL(ops:Array Oper)(o:Oper)(deps loud:Nat)(dn:List jU):Bool:=sB deps loud dn||(mG ops&&Pr ops o deps loud dn)
def pY(P:Program)(GL:List Nat)(callF:cT)(ops:Array Oper)(before:List Nat):List Oper->Nat->List jU->St->Option St
 | [],_,_,s=>some s
 |o::rest,i,dn,s=>match eU ops s.T o,before[i]? with
   |some true,some deps=>match jV P GL callF o s.T {s.M with hide:=aU deps dn++s.M.hide} with
    |some (k,r,M')=>bif wL ops o deps k dn then
      match pX o r {s with M:={M' with hide:=s.M.hide}} with
      |some s'=>pY P GL callF ops before rest (i+1) (⟨i,k,s.M.next,M'.next⟩::dn) s'
      |none=>none
     else none
    |none=>none
   |some false,some _=>match pX o .skip s with
    |some s'=>pY P GL callF ops before rest (i+1) dn s'
    |none=>none
   |_,_=>none
def lG(P:Program)(GL:List Nat)(callF:cT)(ops:Array Oper)(before sl:List Nat)(n0:Nat):List Oper->Nat->List jU->List Nat->St->Option (St×List Nat)
 | [],_,_,S,s=>some (s,S)
 |o::rest,i,dn,S,s=>match eU ops s.T o,before[i]? with
   |some true,some deps=>match jV P GL callF o s.T {s.M with hide:=aU deps dn++s.M.hide} with
    |some (k,r,M')=>match oJ GL sl n0 o i s.T with
     |some b=>match pX o r s with
      |some s'=>lG P GL callF ops before sl n0 rest (i+1) dn (b::S) s'
      |none=>none
     |none=>bif wL ops o deps k dn then
       match pX o r {s with M:={M' with hide:=s.M.hide}} with
       |some s'=>lG P GL callF ops before sl n0 rest (i+1) (⟨i,k,s.M.next,M'.next⟩::dn) S s'
       |none=>none
      else none
    |none=>none
   |some false,some _=>match pX o .skip s with
    |some s'=>lG P GL callF ops before sl n0 rest (i+1) dn S s'
    |none=>none
   |_,_=>none
def Dp(P:Program)(t:TypeId):Nat:=match P.underlying t with
 |some d=>bif dY d then(match P.info? t with|some i=>i.size|none=>0) else 1
 |none=>0
def Eu(GL:List Nat)(sl:List Nat)(n0:Nat)(o:Oper)(i:Nat)(T:Tr Value):Option (TypeId×Addr):=bif fH i sl then
  (match o.op with
  | .load t x=>match ev GL T x with
   |some (.pointer (some a))=>bif Nat.blt a.block n0 then some (t,a) else none
   |_=>none
  |_=>none)
 else none
def yI(GL:List Nat)(o:Oper)(T:Tr Value):List (Nat×Nat×Nat):=match o.op with
 | .store _ x y=>match ev GL T x,ev GL T y with
  |some (.pointer (some a)),some v=> [(a.block,a.off,v.cells.toList.length)]
  |_,_=> []
 |_=> []
def qQ(P:Program)(GL:List Nat)(callF:cT)(ops:Array Oper)(before sl:List Nat)(n0:Nat):List Oper->Nat->List jU->List (TypeId×Addr)->List (Nat×Nat×Nat)->St->Option (St×List (TypeId×Addr)×List (Nat×Nat×Nat))
 | [],_,_,S,W,s=>some (s,S,W)
 |o::rest,i,dn,S,W,s=>match eU ops s.T o,before[i]? with
   |some true,some deps=>match jV P GL callF o s.T {s.M with hide:=aU deps dn++s.M.hide} with
    |some (k,r,M')=>match Eu GL sl n0 o i s.T with
     |some b=>match pX o r s with
      |some s'=>qQ P GL callF ops before sl n0 rest (i+1) dn (b::S) W s'
      |none=>none
     |none=>bif wL ops o deps k dn&&(Nat.ble k 1||gF o) then
       match pX o r {s with M:={M' with hide:=s.M.hide}} with
       |some s'=>qQ P GL callF ops before sl n0 rest (i+1) (⟨i,k,s.M.next,M'.next⟩::dn) S (yI GL o s.T++W) s'
       |none=>none
      else none
    |none=>none
   |some false,some _=>match pX o .skip s with
    |some s'=>qQ P GL callF ops before sl n0 rest (i+1) dn S W s'
    |none=>none
   |_,_=>none
def yV(off n b:Nat):List (Nat×Nat×Nat)->Bool
 | []=>true
 |(b',o',n')::W=>(!(Nat.beq b' b)||Nat.ble (o'+n') off||Nat.ble (off+n) o')&&yV off n b W
def yU(P:Program):List (TypeId×Addr)->List (Nat×Nat×Nat)->Bool
 | [],_=>true
 |(t,a)::S,W=>yV a.off (Dp P t) a.block W&&yU P S W
def xA(P:Program)(GL:List Nat)(callF:cT)(ops:Array Oper)(sl:List Nat)(s:St):Option St:=
 match qQ P GL callF ops (bC ops.toList []) sl s.M.next ops.toList 0 [] [] [] (fD s) with
 |some (s',S,W)=>bif yU P S W then some (Gd s s') else none
 |none=>none
def rU(P:Program)(GL:List Nat)(callF:cT)(ops:Array Oper)(s:St):Option St:=
 match lE ops.toList (bC ops.toList []) ops.toList (bC ops.toList []) 0 with
 | []=>pY P GL callF ops (bC ops.toList []) ops.toList 0 [] s
 |x::l=>match lG P GL callF ops (bC ops.toList []) (x::l) s.M.next ops.toList 0 [] [] (fD s) with
  |some (s',S)=>bif dC S s'.M.log then some (Gd s s') else xA P GL callF ops (x::l) s
  |none=>none
def We(P:Program)(GL:List Nat)(f:Oper)(s s1:St):Option St:=
 match f.op with
 | .store t x y=>match ev GL s1.T x,ev GL s1.T y with
  |some (.pointer (some a)),some v=>match eL P t a v s1.M with
   |some M2=>bif Nat.blt a.block s.M.next&& !(fH a.block s1.M.log) then some (Gd s {s1 with M:=M2}) else none
   |none=>none
  |_,_=>none
 |_=>none
def Cj(P:Program)(GL:List Nat)(callF:cT)(ops:Array Oper)(f:Oper)(s:St):Option St:=
 match lG P GL callF ops (bC ops.toList []) (uV ops.toList (bC ops.toList [])) s.M.next ops.toList.dropLast 0 [] [] (fD s) with
 |some (s1,S)=>bif dC S s1.M.log then We P GL f s s1 else none
 |none=>none
def oV(P:Program)(GL:List Nat)(callF:cT)(ops:Array Oper)(s:St):Option St:=
 match kY ops.toList (bC ops.toList []) with
 |some f=>Cj P GL callF ops f s
 |none=>rU P GL callF ops s
inductive cQ where
 |normal
 |exit (id:Nat)
 |ret
 |goto (l:Nat)
def Kd(P:Program)(s:St):ResultVar->Option Value
 | .tmp t=>s.T.get t
 | .cell a t=>match s.T.get a with
  |some (.pointer (some a))=>bG P t a s.M
  |_=>none
def Af(P:Program)(s:St):List ResultVar->Option (List Value)
 | []=>some []
 |r::l=>match Kd P s r,Af P s l with
  |some v,some vs=>some (v::vs)
  |_,_=>none
def mA(P:Program)(fn:Func)(s:St):Option Value:=
 match Af P s fn.results.toList with
 |some [v]=>some v
 |some vs=>some (.tuple vs.toArray)
 |none=>none
def nP:List Value->Nat->Tr Value->Tr Value
 | [],_,T=>T
 |v::l,i,T=>nP l (i+1) (T.set i (some v))
def mQ(P:Program)(ih:Code->St->Option (cQ×St))(f:FuncId)(args:List Value)(M:aA):Option (Value×aA):=
 match P.funcs[f]? with
 |some fn=>match fn.body with
  |some c=>
   bif Nat.ble args.length fn.ntmps then
    match ih c ⟨nP args 0 .nil,fn.ntmps,M⟩ with
    |some (.normal,s)|some (.ret,s)=>match mA P fn s with
     |some v=>some (v,s.M)
     |none=>none
    |_=>none
   else none
  |none=>none
 |none=>none
def kS(ops:Array Oper):Bool:=Region.lexB .any ops
structure dI where
 calls:FuncId->Option (List Value->aA->Option (Value×aA))
 blocks:Nat->Option (Code->St->Option (cQ×St))
def fT(SP:dI)(callF:cT):cT:=fun f args M=>
 match SP.calls f with
 |some g=>g args M
 |none=>callF f args M
def tK(ih:Code->St->Option (cQ×St))(c:Code):Nat->Code->St->Option (cQ×St)
 |0,_,_=>none
 |n+1,d,s=>match ih d s with
  |some (.goto l,s')=>match findLabel c l with
   |some rest=>tK ih c n rest s'
   |none=>some (.goto l,s')
  |r=>r
def rA(P:Program)(GL:List Nat)(SP:dI)(ih:Code->St->Option (cQ×St))(c:Code)(s:St):Option (cQ×St):=
 match c with
 | .skip=>some (.normal,s)
 | .region _ ops draw=>
  bif draw then
   bif kS ops then
    match oV P GL (fT SP (mQ P ih)) ops s with
    |some s'=>some (.normal,s')
    |none=>none
   else none
  else match xF P GL (fT SP (mQ P ih)) ops ops.toList s with
   |some s'=>some (.normal,s')
   |none=>none
 | .seq a b=>match ih a s with
  |some (.normal,s')=>ih b s'
  |r=>r
 | .cond c x y=>match ev GL s.T c with
  |some (.bool t)=>ih (bif t then x else y) s
  |_=>none
 | .block id b=>match SP.blocks id with
  |some g=>g b s
  |none=>match ih b s with
   |some (.exit i,s')=>bif Nat.beq i id then some (.normal,s') else some (.exit i,s')
   |r=>r
 | .loop b=>match ih b s with
  |some (.normal,s')=>ih (.loop b) s'
  |r=>r
 | .exit id=>some (.exit id,s)
 | .ret=>some (.ret,s)
 | .label _=>some (.normal,s)
 | .goto l=>some (.goto l,s)
 | .scope c=>tK ih c 100000 c s
 |_=>none
def Cl(P:Program)(GL:List Nat)(SP:dI)(n:Nat):Code->St->Option (cQ×St):=
 Nat.rec (fun _ _=>none) (fun _ ih=>rA P GL SP ih) n
def arun(P:Program)(GL:List Nat)(SP:dI)(n:Nat):FuncId->List Value->aA->Option (Value×aA):=mQ P (Cl P GL SP n)
def Bw:dI:=⟨fun _=>none,fun _=>none⟩
end
end Go.Am
