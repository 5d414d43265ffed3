/-
  Package hier: each of its laws for every argument; no conditions. The last text states which.
-/
import Derived.WalkKit
import Derived.Maps.Keyed
set_option linter.unusedVariables false
set_option linter.unusedSimpArgs false
namespace Go.Am
open Go
theorem xAa{p:Prop}[Decidable p](h:¬p):decide p=false:=decide_eq_false h
theorem xAb{p:Prop}[Decidable p](h:p):decide p=true:=decide_eq_true h
theorem xAc:(1:Nat)≠0:=Nat.one_ne_zero
theorem xAd{m n:Nat}(h:Nat.ble m n=true):m≤n:=Nat.le_of_ble_eq_true h
theorem xAe{α:Type _}{l:List α}{i:Nat}(h:i<l.length):l[i]?=some l[i]:=List.getElem?_eq_getElem h
theorem xAf{a b c:Nat}(h:a<b)(k:b≤c):a<c:=Nat.lt_of_lt_of_le h k
theorem xAg{α:Type _}{l:List α}{i:Nat}{a:α}:l[i]?=some a↔∃ h:i<l.length,l[i]=a:=List.getElem?_eq_some_iff
theorem xAh{α:Type _}{l:List α}{i:Nat}{a:α}(h:l[i]?=some a):a∈l:=List.mem_of_getElem? h
theorem xBa{m n:Nat}(h:Nat.beq m n=true):m=n:=Nat.eq_of_beq_eq_true h
noncomputable section
inductive Tr(α:Type) where
 |nil
 |node (v:Option α) (l r:Tr α)
def Tr.get{α:Type}(t:Tr α):Nat->Option α:=
 Tr.rec (motive:=fun _=>Nat->Option α) (fun _=>none) (fun v _ _ ihl ihr n=>Nat.rec (motive:=fun _=>Option α) v (fun m _=>Bool.rec (ihr (m/2)) (ihl (m/2)) (Nat.beq (m%2) 0)) n) t
def Tr.val{α:Type}:Tr α->Option α
 | .nil=>none
 | .node v _ _=>v
def Tr.left{α:Type}:Tr α->Tr α
 | .nil=> .nil
 | .node _ l _=>l
def Tr.right{α:Type}:Tr α->Tr α
 | .nil=> .nil
 | .node _ _ r=>r
def Tr.setF{α:Type}(a:Option α)(f:Nat):Tr α->Nat->Tr α:=
 Nat.rec (motive:=fun _=>Tr α->Nat->Tr α) (fun t _=>t) (fun _ ih t n=>
  Nat.rec (motive:=fun _=>Tr α) (Tr.rec (motive:=fun _=>Tr α) (.node a .nil .nil) (fun _ l r _ _=> .node a l r) t)
   (fun m _=>Bool.rec (Tr.rec (motive:=fun _=>Tr α) (.node none .nil (ih .nil (m/2))) (fun v l r _ _=> .node v l (ih r (m/2))) t)
    (Tr.rec (motive:=fun _=>Tr α) (.node none (ih .nil (m/2)) .nil) (fun v l r _ _=> .node v (ih l (m/2)) r) t) (Nat.beq (m%2) 0)) n) f
def Tr.set{α:Type}(t:Tr α)(n:Nat)(a:Option α):Tr α:=Tr.setF a (n+1) t n
structure aR where
 cs:List Value
 elem:TypeId
 esz:Nat
 wf:Nat
 app:Bool
structure aB where
 blks:Tr aR
 next:Nat
 hide:List (Nat×Nat)
 log:List Nat
def bD:List (Nat×Nat)->Nat->Bool
 | [],_=>false
 |(a,b)::l,n=>(Nat.ble a n&&Nat.blt n b)||bD l n
def nY:Nat:=97
def dS(b:aR):Bool:=b.app&&Nat.beq b.esz nY
def Oi(b:Option aR):Option aR:=match b with|some b=>bif dS b then none else some b|none=>none
def mapO(b:Option aR):Option aR:=match b with|some b=>bif dS b then some b else none|none=>none
def aB.getA(M:aB)(id:Nat):Option aR:=bif Nat.blt id M.next&& !bD M.hide id then M.blks.get id else none
def aB.get(M:aB)(id:Nat):Option aR:=Oi (M.getA id)
def aB.getM(M:aB)(id:Nat):Option aR:=mapO (M.getA id)
def aB.put(M:aB)(id:Nat)(b:Option aR):aB:={M with blks:=M.blks.set id b,log:=id::M.log}
def aB.alloc(M:aB)(b:aR):aB:={M with blks:=M.blks.set M.next (some b),next:=M.next+1}
def leaf:Value->Bool
 | .bool _| .int _ _| .float _ _| .complex _ _ _| .string _| .pointer none| .slice none 0 0| .map none| .chan none| .nilFunc| .nilIface=>true
 |_=>false
def nF:Fn->Bool
 | .yield _=>true
 |_=>false
mutual
def flat:Value->Bool
 | .bool _| .int _ _| .float _ _| .complex _ _ _| .string _| .nilFunc| .nilIface=>true
 | .pointer a=>a.isNone
 | .slice a l c=>a.isNone&&Nat.beq l 0&&Nat.beq c 0
 | .map r=>r.isNone
 | .chan r=>r.isNone
 | .func fn first captured=> !nF fn&&(nZ first&&nZ captured)
 | .iface _ v=>flat v
 | .agg cs=>nZ cs
 | .tuple vs=>nZ vs
def nZ:Array Value->Bool
 |⟨l⟩=>dU l
def dU:List Value->Bool
 | []=>true
 |v::l=>flat v&&dU l
end
def isCell:Value->Bool
 | .agg _| .tuple _=>false
 |_=>true
structure St where
 T:Tr Value
 n:Nat
 M:aB
def ev(GL:List Nat)(T:Tr Value):Operand->Option Value
 | .tmp t=>T.get t
 | .const v=>bif flat v then some v else none
 | .global g=>bif GL.any (Nat.beq g) then some (.pointer (some ⟨g,0,none⟩)) else none
 | .func f=>some (.func (.func f) #[] #[])
def pS(GL:List Nat)(T:Tr Value):List Operand->Option (List Value)
 | []=>some []
 |x::l=>match ev GL T x,pS GL T l with
  |some v,some vs=>some (v::vs)
  |_,_=>none
def cF{α:Type}(P:Program):Sem α->Option α
 | .pure a=>some a
 | .program k=>cF P (k P)
 | .mark _ k=>cF P k
 |_=>none
inductive AR where
 |val (v:Value)
 |skip
abbrev zV:=Option (Nat×AR×aB)
def eC:TypeDesc->Bool
 | .struct _| .array _ _=>true
 |_=>false
def dJ:Nat->List Value->Option (List Value)
 |0,_=>some []
 |n+1,v::l=>match dJ n l with|some r=>some (v::r)|none=>none
 |_+1,[]=>none
def bA(P:Program)(t:TypeId)(a:Addr)(M:aB):Option Value:=
 match P.underlying t,M.get a.block with
 |some d,some b=>
  bif eC d then
   match P.info? t with
   |some i=>match dJ i.size (b.cs.drop a.off) with
    |some l=>some (.agg l.toArray)
    |none=>none
   |none=>none
  else b.cs[a.off]?
 |_,_=>none
def splice:List Value->Nat->List Value->List Value
 |cs,_,[]=>cs
 | [],_,_=>[]
 |_::cs,0,v::l=>v::splice cs 0 l
 |c::cs,n+1,l=>c::splice cs n l
def eB(P:Program)(t:TypeId)(a:Addr)(v:Value)(M:aB):Option aB:=
 match M.get a.block,P.info? t with
 |some b,some i=>
  bif Nat.beq v.cells.toList.length i.size&&v.cells.toList.all isCell&&Nat.ble b.wf a.off&&Nat.ble (a.off+v.cells.toList.length) b.cs.length then
   some (M.put a.block (some {b with cs:=splice b.cs a.off v.cells.toList}))
  else none
 |_,_=>none
def Ut(P:Program)(t:TypeId):Option Nat:=match P.info? t with|some i=>some i.size|none=>none
def Lp(P:Program):Nat->TypeId->Bool
 |0,_=>false
 |n+1,t=>match P.underlying t with
  |some (.struct fields)=>match fields[0]? with
   |some f=>match P.underlying f.type with
    |some (.pointer e)=>Nat.beq e t
    |_=>Lp P n f.type
   |none=>false
  |_=>false
def Xp(P:Program)(elem:TypeId):Option Nat:=
 bif Lp P 3 elem then some 0 else
 match P.underlying elem with
 |some (.array _ e)=>Ut P e
 |some _=>Ut P elem
 |none=>none
def nT(z:Nat)(elem:TypeId)(cs:List Value)(M:aB):aB:=M.alloc {cs,elem,esz:=z,wf:=0,app:=true}
def made(v:Value)(M:aB):zV:=some (1,.val v,M)
def cQ(P:Program)(elem:TypeId)(M:aB):zV:=
 match P.info? elem,Xp P elem with
 |some i,some z=>match i.zero with
  |some v=>bif flat v&&v.cells.toList.all isCell then made (.pointer (some ⟨M.next,0,none⟩)) (nT z elem v.cells.toList M) else none
  |none=>none
 |_,_=>none
def fE(P:Program)(elem:TypeId)(v:Value)(M:aB):zV:=
 match Xp P elem with
 |some z=>bif v.cells.toList.all isCell then made (.pointer (some ⟨M.next,0,none⟩)) (nT z elem v.cells.toList M) else none
 |none=>none
def vT(P:Program)(s:TypeId)(x:Value)(field:Nat):Option Value:=
 match P.underlying s,x with
 |some (.struct fields),.pointer (some a)=>
  match fields[field]? with
  |some f=>match P.info? f.type with
   |some i=>bif Nat.beq i.size 0 then none else some (.pointer (some (a.add f.offset)))
   |none=>none
  |none=>none
 |_,_=>none
def apart(P:Program)(t:TypeId)(cs:List Value)(off:Nat):Option Value:=
 match P.underlying t with
 |some d=>
  bif eC d then
   match P.info? t with
   |some i=>some (.agg ((cs.drop off).take i.size).toArray)
   |none=>none
  else cs[off]?
 |none=>none
def Mo(P:Program)(s:TypeId)(x:Value)(field:Nat):Option Value:=
 match P.underlying s,x with
 |some (.struct fields),.agg cs=>
  match fields[field]? with
  |some f=>apart P f.type cs.toList f.offset
  |none=>none
 |_,_=>none
def Nq(i:Int)(n:Nat):Bool:=decide (0<=i)&&decide (i<(n:Int))
def oW(P:Program)(t:TypeId)(x ix:Value):Option Value:=
 match P.underlying t,x,ix with
 |some (.slice elem),.slice (some a) len _,.int _ i=>
  match P.info? elem with
  |some e=>bif Nq i len then some (.pointer (some (a.add (i.toNat*e.size)))) else none
  |none=>none
 |some (.array len elem),.pointer (some a),.int _ i=>
  match P.info? elem with
  |some e=>bif Nq i len then some (.pointer (some (a.add (i.toNat*e.size)))) else none
  |none=>none
 |_,_,_=>none
def Mp(P:Program)(t:TypeId)(x ix:Value):Option Value:=
 match P.underlying t,x,ix with
 |some (.array len elem),.agg cs,.int _ i=>
  match P.info? elem with
  |some e=>bif Nq i len then apart P elem cs.toList (i.toNat*e.size) else none
  |none=>none
 |_,_,_=>none
def mU(x:Option Value)(most dflt:Nat):Option Nat:=
 match x with
 |none=>some dflt
 |some (.int _ i)=>bif decide (0<=i)&&decide (i<=(most:Int)) then some i.toNat else none
 |_=>none
def vY(P:Program)(t:TypeId)(x:Value)(lo hi mx:Option Value)(M:aB):Option Value:=
 bif mx.isSome&&hi.isNone then none else
 match P.underlying t,x with
 |some (.slice elem),.slice (some a) len cap=>
  match P.info? elem,M.get a.block,mU mx len len with
  |some e,some b,some m=>match mU hi m len with
   |some h=>match mU lo h 0 with
    |some l=>bif Nat.beq b.esz e.size&&a.spot.isNone then some (.slice (some (a.add (l*e.size))) (h-l) (bif mx.isSome then m-l+1 else bif Nat.beq h len&& !(Nat.beq cap len) then cap-l else h-l)) else none
    |none=>none
   |none=>none
  |_,_,_=>none
 |some (.slice elem),.slice none 0 0=>
  match P.info? elem,mx,mU hi 0 0 with
  |some _,none,some h=>match mU lo h 0 with
   |some _=>some (.slice none 0 0)
   |none=>none
  |_,_,_=>none
 |some (.array n elem),.pointer (some a)=>
  match P.info? elem,M.get a.block,mU mx n n with
  |some e,some b,some m=>match mU hi m n with
   |some h=>match mU lo h 0 with
    |some l=>bif Nat.beq b.esz e.size&&Nat.ble (a.off+n*e.size) b.cs.length then some (.slice (some (a.add (l*e.size))) (h-l) (bif Nat.beq h m then h-l+1 else h-l)) else none
    |none=>none
   |none=>none
  |_,_,_=>none
 |_,_=>none
def kQ:Nat->List Value->List Value
 |0,_=>[]
 |n+1,z=>z++kQ n z
def bR(P:Program)(t:TypeId)(len cap:Value)(M:aB):zV:=
 match P.underlying t,len,cap with
 |some (.slice elem),.int _ l,.int _ c=>
  match P.info? elem with
  |some e=>match e.zero with
   |some z=>
    bif flat z&&z.cells.toList.all isCell&&Nat.beq z.cells.toList.length e.size&& !Nat.beq e.size 0&&decide (0<=l)&&decide (l<=c)&&decide (c<2^37)&&Nat.ble e.bytes 1024 then
     made (.slice (some ⟨M.next,0,none⟩) l.toNat (bif decide (l=c) then l.toNat+1 else l.toNat)) (nT e.size elem (kQ l.toNat z.cells.toList) M)
    else none
   |none=>none
  |none=>none
 |_,_,_=>none
def vB(place:Nat->Option (Nat×Nat))(cells:List Value):List (Nat×Value)->Option (List Value)
 | []=>some cells
 |(i,v)::rest=>
  match place i with
  |none=>none
  |some (off,size)=>
   bif Nat.beq v.cells.toList.length size&&Nat.ble (off+v.cells.toList.length) cells.length then vB place (splice cells off v.cells.toList) rest
   else none
def nE(GL:List Nat)(T:Tr Value):List (Nat×Operand)->Option (List (Nat×Value))
 | []=>some []
 |(i,x)::l=>match ev GL T x,nE GL T l with
  |some v,some vs=>some ((i,v)::vs)
  |_,_=>none
def yC(P:Program):List Field->Option (List (Nat×Nat))
 | []=>some []
 |f::l=>match P.info? f.type,yC P l with
  |some i,some r=>some ((f.offset,i.size)::r)
  |_,_=>none
def Mi(P:Program)(t:TypeId)(parts:List (Nat×Value)):Option Value:=
 match P.info? t,P.underlying t with
 |some i,some d=>match i.zero with
  |some z=>bif flat z then
    match d with
    | .struct fields=>match yC P fields.toList with
     |some pl=>match vB (pl[·]?) z.cells.toList parts with
      |some cs=>some (.agg cs.toArray)
      |none=>none
     |none=>none
    | .array _ elem=>match P.info? elem with
     |some e=>match vB (fun i=>some (i*e.size,e.size)) z.cells.toList parts with
      |some cs=>some (.agg cs.toArray)
      |none=>none
     |none=>none
    |_=>none
   else none
  |none=>none
 |_,_=>none
def bE(P:Program)(t:TypeId)(len:Nat)(parts:List (Nat×Value))(M:aB):zV:=
 match P.underlying t with
 |some (.slice elem)=>match P.info? elem with
  |some e=>match e.zero with
   |some z=>
    bif flat z&&z.cells.toList.all isCell&&Nat.beq z.cells.toList.length e.size&& !Nat.beq e.size 0&&Nat.ble (len*e.size) (2^24) then
     match vB (fun i=>some (i*e.size,e.size)) (kQ len z.cells.toList) parts with
     |some cs=>bif cs.all isCell then made (.slice (some ⟨M.next,0,none⟩) len (len+1)) (nT e.size elem cs M) else none
     |none=>none
    else none
   |none=>none
  |none=>none
 |_=>none
def tM(P:Program)(x:Value)(asserted:TypeId)(commaOk:Bool):Option Value:=
 match P.underlying asserted,x with
 |some (.interface _),_=>none
 |some _,.iface t v=>
  bif Nat.beq t asserted then some (bif commaOk then .tuple #[v,.bool true] else v)
  else bif commaOk then match P.info? asserted with
   |some i=>match i.zero with
    |some z=>bif flat z then some (.tuple #[z,.bool false]) else none
    |none=>none
   |none=>none
  else none
 |some _,.nilIface=>
  bif commaOk then match P.info? asserted with
   |some i=>match i.zero with
    |some z=>bif flat z then some (.tuple #[z,.bool false]) else none
    |none=>none
   |none=>none
  else none
 |_,_=>none
def De:TypeDesc->Bool
 | .interface _=>true
 |_=>false
def Ve(P:Program)(t:TypeId)(x y:Value):Option Bool:=
 match P.underlying t,x,y with
 |some (.pointer _),.pointer none,.pointer b=>some b.isNone
 |some (.pointer _),.pointer (some _),.pointer none=>some false
 |some (.pointer e),.pointer (some a),.pointer (some b)=>
  match P.info? e with
  |some i=>bif Nat.beq i.size 0 then none else bif Nat.beq a.block b.block then some (Nat.beq a.off b.off) else none
  |none=>none
 |some (.interface _),.nilIface,.iface _ _=>some false
 |some (.interface _),.iface _ _,.nilIface=>some false
 |some (.interface _),.iface s _,.iface u _=>bif Nat.beq s u then none else some false
 |some (.slice _),.slice none _ _,.slice b _ _=>some b.isNone
 |some (.slice _),.slice (some _) _ _,.slice none _ _=>some false
 |some (.func _ _ _),.nilFunc,.func _ _ _=>some false
 |some (.func _ _ _),.func _ _ _,.nilFunc=>some false
 |_,_,_=>none
def range(cs:List Value)(off n:Nat):Option (List Value):=dJ n (cs.drop off)
def jI(s:ByteArray)(n:Nat):List Value:=(s.data.toList.take n).map fun b=>Value.int .u8 b.toNat
def iS(M:aB)(size n:Nat):Value->Option (List Value)
 | .slice (some a) _ _=>match M.get a.block with
  |some b=>range b.cs a.off (n*size)
  |none=>bif Nat.beq n 0 then some [] else none
 | .slice none _ _=>bif Nat.beq n 0 then some [] else none
 | .string s=>some (jI s n)
 |_=>none
def nX:Value->Option Nat
 | .slice _ n _=>some n
 | .string s=>some s.size
 |_=>none
def Ja(e:TypeInfo):Bool:=match e.zero with|some z=>Nat.beq z.cells.toList.length e.size|none=>false
def vM(e:TypeInfo)(n:Nat):Bool:= !Nat.beq e.size 0&&Nat.ble n (2^40)&&Nat.ble (n*e.bytes) (2^40)&&Nat.ble e.bytes (2^40)&&Ja e
def kL:TypeDesc->Bool
 | .int _=>true
 |_=>false
def Ah(P:Program)(elem:TypeId):Bool:=
 match P.underlying elem with
 |some (.array n _)=>Nat.beq n 2
 |some (.struct fields)=>match fields.toList with
  | [a,b,c]=>Nat.beq a.type b.type&&Nat.beq b.type c.type
  |_=>false
 |_=>false
def dM(P:Program)(argTypes:List TypeId)(s x:Value)(M:aB):zV:=
 match argTypes with
 | [sT,xT]=>match P.underlying sT,P.underlying xT with
  |some (.slice elem),some xd=>match P.info? elem,nX x with
   |some e,some n=>
    match kL xd,iS M e.size n x,s with
    |false,some new,.slice none 0 0=>
     bif !vM e n|| !(new.all isCell)|| !(Nat.beq new.length (n*e.size)) then none
     else bif Nat.beq n 0 then some (1,.val (.slice none 0 0),M)
     else made (.slice (some ⟨M.next,0,none⟩) n n) (nT e.size elem new M)
    |false,some new,.slice (some a) len cap=>
     match M.get a.block with
     |some b=>match range b.cs a.off (len*e.size) with
      |some old=>
       bif !vM e (len+n)|| !(new.all isCell)|| !(Nat.beq new.length (n*e.size))|| !(Nat.beq b.esz e.size)|| !(Nat.beq b.elem elem)|| !a.spot.isNone then none
       else bif Nat.beq n 0 then some (1,.val s,M)
       else bif !(Nat.beq cap len) then
        bif Nat.ble cap (len+n) then made (.slice (some ⟨M.next,0,none⟩) (len+n) (len+n)) (nT e.size elem (old++new) M)
        else bif Nat.ble b.wf (a.off+len*e.size)&&Nat.ble (a.off+(len+n)*e.size) b.cs.length then
         some (2,.val (.slice (some a) (len+n) cap),M.put a.block (some {b with cs:=splice b.cs (a.off+len*e.size) new}))
        else none
       else bif b.app&&Nat.ble b.wf (a.off+len*e.size) then
        bif Ah P elem&& !(Nat.beq (len*e.size) 0) then
         some (2,.val (.slice (some ⟨M.next,0,none⟩) (len+n) (len+n)),(M.put a.block (some {b with cs:=b.cs.take (a.off+len*e.size),wf:=a.off+len*e.size,app:=false})).alloc {cs:=old++new,elem:=b.elem,esz:=b.esz,wf:=len*e.size,app:=true})
        else bif Nat.beq b.wf 0||Nat.blt a.off b.wf then
        some (2,.val (.slice (some ⟨M.next,0,none⟩) (len+n) (len+n)),(M.put a.block none).alloc {cs:=old++new,elem:=b.elem,esz:=b.esz,wf:=b.wf-a.off,app:=true})
       else none
       else none
      |none=>none
     |none=>none
    |_,_,_=>none
   |_,_=>none
  |_,_=>none
 |_=>none
def Jf(P:Program)(argTypes:List TypeId)(d x:Value)(M:aB):zV:=
 match argTypes with
 |dT::_=>match P.underlying dT with
  |some (.slice elem)=>match P.info? elem,nX x,d with
   |some _,some _,.slice none 0 0=>some (1,.val (.int .i64 0),M)
   |some e,some xl,.slice (some a) dl _=>
    match iS M e.size (Nat.min xl dl) x,M.get a.block with
    |some l,some b=>
     bif !(l.all isCell)|| !(Nat.ble b.wf a.off)|| !(Nat.ble (a.off+l.length) b.cs.length)|| !a.spot.isNone then none
     else some (2,.val (.int .i64 (Nat.min xl dl)),M.put a.block (some {b with cs:=splice b.cs a.off l}))
    |_,_=>none
   |_,_,_=>none
  |_=>none
 |_=>none
def Hg(P:Program)(argTypes:List TypeId)(x:Value)(M:aB):zV:=
 match argTypes,x with
 |t::_,.slice (some a) n _=>match P.underlying t with
  |some (.slice elem)=>match(P.info? elem).bind (·.zero),M.get a.block with
   |some z,some b=>
    bif flat z&&z.cells.toList.all isCell&& !Nat.beq (n*z.cells.toList.length) 0&&Nat.ble b.wf a.off&&Nat.ble (a.off+n*z.cells.toList.length) b.cs.length&&a.spot.isNone then
     some (2,.val (.tuple #[]),M.put a.block (some {b with cs:=splice b.cs a.off (kQ n z.cells.toList)}))
    else none
   |_,_=>none
  |_=>none
 |_,_=>none
def pA(P:Program):Nat->TypeId->TypeId->Bool
 |0,_,_=>false
 |n+1,e,u=> !(Nat.beq (P.cellsOf e) 0)&&(Nat.beq e u||match P.underlying e with
  |some (.struct fields)=>match fields[0]? with
   |some f=> !(P.stoodInHeld e)&&Nat.beq f.offset 0&&pA P n f.type u
   |none=>false
  |_=>false)
def hQ:List Value->Option (List UInt8)
 | []=>some []
 | .int .u8 n::l=>match hQ l with
  |some r=>some (UInt8.ofNat n.toNat::r)
  |none=>none
 |_=>none
def qX(P:Program)(src dst:TypeId)(x:Value)(M:aB):zV:=
 match P.underlying src,P.underlying dst,x with
 |some .string,some (.slice e),.string s=>
  match P.underlying e,P.info? e with
  |some (.int .u8),some i=>bif Nat.beq i.size 1&&Nat.ble s.size (2^40) then made (.slice (some ⟨M.next,0,none⟩) s.size s.size) (nT i.size e (jI s s.size) M) else none
  |_,_=>none
 |some (.slice e),some .string,.slice (some a) len _=>
  match P.underlying e,M.get a.block with
  |some (.int .u8),some b=>match(bif a.spot.isNone then range b.cs a.off len else none) with
   |some l=>match hQ l with
    |some bs=>some (1,.val (.string ⟨bs.toArray⟩),M)
    |none=>none
   |none=>none
  |_,_=>none
 |some (.pointer t),some .unsafePointer,.pointer (some a)=>
  match P.info? t,M.get a.block with
  |some j,some b=>bif Nat.beq j.size 0|| !(Nat.blt a.off b.cs.length) then none else some (1,.val (.pointer (some a)),M)
  |_,_=>none
 |some .unsafePointer,some (.pointer u),.pointer (some a)=>
  match P.info? u,M.get a.block with
  |some j,some b=>bif Nat.beq j.size 0|| !(Nat.beq b.esz 0)|| !(Nat.beq a.off 0)|| !(Nat.ble (P.cellsOf b.elem) b.cs.length)|| !(pA P 3 b.elem u) then none else some (1,.val (.pointer (some a)),M)
  |_,_=>none
 |_,_,_=>none
def Hl(P:Program)(argTypes:List TypeId)(x y:Value)(M:aB):zV:=
 match argTypes,x,y with
 |pt::_,.pointer (some a),.int .i64 n=>match P.underlying pt,M.get a.block with
  |some (.pointer e),some b=>match range b.cs a.off n.toNat with
   |some l=>match hQ l with
    |some bs=>bif decide (0<n)&&decide (n<=1099511627776)&&Nat.beq b.elem e&&b.app&&Nat.beq (P.cellsOf e) 1 then
      some (2,.val (.string ⟨bs.toArray⟩),M.put a.block (some {b with wf:=b.cs.length,app:=false}))
     else none
    |none=>none
   |none=>none
  |_,_=>none
 |_,_,_=>none
def Mq(P:Program)(g:FuncId)(args:List Value)(M:aB):zV:=
 match P.funcs[g]?,args with
 |some fn,[x]=>bif fn.name== "internal/abi.NoEscape" &&fn.origin== "" &&fn.body.isNone then some (1,.val x,M) else none
 |_,_=>none
def Nr(P:Program)(k:TypeId):Bool:=
 match P.underlying k with
 |some (.array _ _)=>P.keyTypeAt 5 k&&P.tiled 5 k
 |some (.struct _)=>P.keyTypeAt 5 k&&P.tiled 5 k
 |some (.int _)|some .string|some .bool=>true
 |_=>false
def Hn:Value->Value->Bool
 | .bool a,.bool b=>a==b
 | .int k a,.int k' b=>decide (k=k')&&decide (a=b)
 | .string a,.string b=>decide (a=b)
 |_,_=>false
def uM:List Value->List Value->Bool
 | [],[]=>true
 |a::l,b::m=>Hn a b&&uM l m
 |_,_=>false
def pF:Value->Value->Bool
 | .agg ⟨x⟩,.agg ⟨y⟩=>uM x y
 |a,b=>Hn a b
def Gf(P:Program)(k:TypeId)(key:Value):Bool:=Nr P k&&(keyOf P k key).isSome&&flat key&&pF key key
def xQ(key:Value):List Value->Option Value
 |k::v::l=>bif pF key k then some v else xQ key l
 |_=>none
def Ic(key val:Value):List Value->List Value
 |k::v::l=>bif pF key k then k::val::l else k::v::Ic key val l
 |_=>[key,val]
def Ep(P:Program)(t:TypeId):Option Value:=
 match P.info? t with
 |some i=>match i.zero with
  |some z=>bif flat z then some z else none
  |none=>none
 |none=>none
def Bl(P:Program)(t:TypeId)(x key:Value)(ok:Bool)(M:aB):zV:=
 match P.underlying t,x with
 |some (.map k e),.map (some r)=>match M.getM r,Ep P e with
  |some b,some z=>bif Nat.beq b.elem k&&Gf P k key then
    match xQ key b.cs with
    |some v=>some (1,.val (bif ok then .tuple #[v,.bool true] else v),M)
    |none=>some (1,.val (bif ok then .tuple #[z,.bool false] else z),M)
   else none
  |_,_=>none
 |_,_=>none
def rX(P:Program)(t:TypeId)(x key v:Value)(M:aB):zV:=
 match P.underlying t,x with
 |some (.map k _),.map (some r)=>match M.getM r with
  |some b=>bif Nat.beq b.elem k&&Gf P k key then some (2,.skip,M.put r (some {b with cs:=Ic key v b.cs})) else none
  |none=>none
 |_,_=>none
def Td:Option Value->Bool
 |none=>true
 |some (.int _ _)=>true
 |_=>false
def xE(P:Program)(t:TypeId)(hint:Option Value)(M:aB):zV:=
 match P.underlying t with
 |some (.map k _)=>bif Td hint then some (1,.val (.map (some M.next)),M.alloc ⟨[],k,nY,0,true⟩) else none
 |_=>none
abbrev dD:=FuncId->List Value->aB->Option (Value×aB)
def kG(n:Nat):List Nat->List Nat
 | []=>[]
 |x::l=>bif Nat.blt x n then x::kG n l else kG n l
def lB(callF:dD)(f:FuncId)(args:List Value)(M:aB):zV:=
 match callF f args {M with log:=[]} with
 |some (v,M')=>
  match kG M.next M'.log with
  | []=>some (1,.val v,{M' with log:=M.log,hide:=M.hide})
  |l=>some (2,.val v,{M' with log:=l++M.log,hide:=M.hide})
 |none=>none
def YB:Nat:=1000000000
def Hm(callF:dD)(fv:Value)(args:List Value)(M:aB):zV:=
 match fv with
 | .func (.yield r) ⟨[]⟩ ⟨[]⟩=>lB callF (YB+r) args M
 |_=>none
def fI(P:Program)(f:FuncId):Bool:=
 match P.funcs[f]? with
 |some fn=>fn.body.isSome
 |none=>false
def jS(P:Program)(GL:List Nat)(o:Oper)(T:Tr Value):Option AR:=
 match pS GL T o.op.operands.toList with
 |some vs=>
  bif dU vs then
   match cF P (execOp (fun x=>(ev GL T x).getD undef) o) with
   |some (.value v)=>bif flat v then some (.val v) else none
   |_=>none
  else none
 |none=>none
def zR:Value->Option (FuncId×List Value×List Value)
 | .func (.func f) first captured=>some (f,first.toList,captured.toList)
 |_=>none
def Hy:TypeDesc->Bool
 | .pointer _=>true
 |_=>false
def Bm(P:Program)(t:TypeId)(name:String):Option FuncId:=
 match P.info? t with
 |some i=>match i.methods.find? (·.name==name) with
  |some m=>match m.path.toList with
   | []=>match m.func,P.underlying t with
    |some (f,b),some d=>bif b==Hy d then some f else none
    |_,_=>none
   |_=>none
  |none=>none
 |none=>none
def yH(v:Option Value):Option AR:=match v with|some v=>some (.val v)|none=>none
def kO(P:Program)(GL:List Nat)(o:Oper)(T:Tr Value)(b:Option Value):Option AR:=
 match jS P GL o T with
 |some r=>some r
 |none=>yH b
def fL(P:Program)(GL:List Nat)(o:Oper)(T:Tr Value):Option AR:=
 match o.op with
 | .move x| .assign x=>yH (ev GL T x)
 | .pick c a b=>match ev GL T c with
  |some (.bool t)=>yH (ev GL T (bif t then a else b))
  |_=>none
 | .build t parts=>match nE GL T parts.toList with|some ps=>yH (Mi P t ps)|none=>none
 | .nilCheck x=>match ev GL T x with
  |some (.pointer (some a))=>some (.val (.pointer (some a)))
  |some (.iface t v)=>some (.val (.iface t v))
  |some (.func (.func f) x y)=>some (.val (.func (.func f) x y))
  |_=>none
 | .binOp op t x y _=>kO P GL o T (match op,ev GL T x,ev GL T y with
   | .eql,some a,some b=>match Ve P t a b with|some r=>some (.bool r)|none=>none
   | .neq,some a,some b=>match Ve P t a b with|some r=>some (.bool (!r))|none=>none
   |_,_,_=>none)
 | .makeInterface xT x=>match P.underlying xT,ev GL T x with
  |some d,some v=>bif De d then none else some (.val (.iface xT v))
  |_,_=>none
 | .makeFunc fn first captured=>match pS GL T first.toList,pS GL T captured.toList with
  |some a,some b=>bif nF fn then none else some (.val (.func fn a.toArray b.toArray))
  |_,_=>none
 | .fieldAddr s x f=>match ev GL T x with|some v=>yH (vT P s v f)|none=>none
 | .field s x f=>match ev GL T x with|some v=>yH (Mo P s v f)|none=>none
 | .indexAddr t x ix=>match ev GL T x,ev GL T ix with|some v,some i=>yH (oW P t v i)|_,_=>none
 | .index t x ix=>kO P GL o T (match ev GL T x,ev GL T ix with|some v,some i=>Mp P t v i|_,_=>none)
 | .typeAssert x _ asserted ok=>match ev GL T x with|some v=>yH (tM P v asserted ok)|none=>none
 | .extract x i=>match ev GL T x with|some (.tuple vs)=>yH vs[i]?|_=>none
 | .call c=>match c.callee with
  | .builtin .len=>kO P GL o T (match pS GL T c.args.toList,(c.argTypes[0]?).bind (P.underlying ·) with
    |some [.slice (some _) n _],some (.slice _)=>some (.int .i64 n)
    |_,_=>none)
  | .value f=>match ev GL T f with
   |some fv=>match zR fv with
    |some (g,_,_)=>bif fI P g then none else jS P GL o T
    |none=>none
   |none=>none
  | .builtin .append=>none
  | .builtin .copy=>none
  | .builtin .clear=>none
  | .builtin .unsafeSliceData=>kO P GL o T (match pS GL T c.args.toList with
    |some [.slice (some a) n _]=>bif Nat.beq n 0 then none else some (.pointer (some a))
    |_=>none)
  |_=>jS P GL o T
 | .slice _ x _ _ _=>match ev GL T x with
  |some (.string _)=>jS P GL o T
  |_=>none
 | .convert _ dst x=>match P.underlying dst with
  |some (.slice _)=>none
  |_=>match ev GL T x with
   |some (.slice (some _) _ _)=>none
   |_=>jS P GL o T
 | .select _ _| .load _ _| .store _ _ _| .alloc _| .box _ _| .buildSlice _ _ _| .makeSlice _ _ _=>none
 |_=>jS P GL o T
def fM(P:Program)(GL:List Nat)(callF:dD)(o:Oper)(T:Tr Value)(M:aB):zV:=
 match o.op with
 | .alloc elem=>cQ P elem M
 | .box elem x=>match ev GL T x with|some v=>fE P elem v M|none=>none
 | .buildSlice t len parts=>match nE GL T parts.toList with|some ps=>bE P t len ps M|none=>none
 | .load t x=>match ev GL T x with
  |some (.pointer (some a))=>match bA P t a M with
   |some v=>some (1,.val v,M)
   |none=>none
  |_=>none
 | .store t x y=>match ev GL T x,ev GL T y with
  |some (.pointer (some a)),some v=>match eB P t a v M with
   |some M'=>some (2,.skip,M')
   |none=>none
  |_,_=>none
 | .convert src dst x=>match ev GL T x with|some v=>qX P src dst v M|none=>none
 | .makeSlice t l c=>match ev GL T l,ev GL T c with|some l,some c=>bR P t l c M|_,_=>none
 | .slice t x lo hi mx=>match ev GL T x,pS GL T (lo.toList++hi.toList++mx.toList) with
   |some v,some _=>match vY P t v (lo.bind (ev GL T)) (hi.bind (ev GL T)) (mx.bind (ev GL T)) M with
    |some r=>some (1,.val r,M)
    |none=>none
   |_,_=>none
 | .call c=>
  match c.callee with
  | .value f=>match ev GL T f,pS GL T c.args.toList with
   |some fv,some args=>match zR fv with
    |some (g,first,captured)=>bif fI P g then lB callF g (first++args++captured) M else Mq P g (first++args++captured) M
    |none=>Hm callF fv args M
   |_,_=>none
  | .invoke x name=>match ev GL T x,pS GL T c.args.toList with
   |some (.iface t v),some args=>match Bm P t name with
    |some g=>bif fI P g then lB callF g (v::args) M else none
    |none=>none
   |_,_=>none
  | .builtin .append=>match pS GL T c.args.toList with|some [s,x]=>dM P c.argTypes.toList s x M|_=>none
  | .builtin .copy=>match pS GL T c.args.toList with|some [d,x]=>Jf P c.argTypes.toList d x M|_=>none
  | .builtin .clear=>match pS GL T c.args.toList with|some [x]=>Hg P c.argTypes.toList x M|_=>none
  | .builtin .unsafeString=>match pS GL T c.args.toList with|some [x,y]=>Hl P c.argTypes.toList x y M|_=>none
  |_=>none
 | .makeMap t hint=>match pS GL T hint.toList with
  |some _=>xE P t (hint.bind (ev GL T)) M
  |none=>none
 | .lookup t x k ok=>match ev GL T x,ev GL T k with|some v,some key=>Bl P t v key ok M|_,_=>none
 | .mapUpdate t x k v=>match ev GL T x,ev GL T k,ev GL T v with|some m,some key,some u=>rX P t m key u M|_,_,_=>none
 |_=>none
def jY(P:Program)(GL:List Nat)(callF:dD)(o:Oper)(T:Tr Value)(M:aB):zV:=
 match fL P GL o T with
 |some r=>some (0,r,M)
 |none=>match fM P GL callF o T M with
  |some (0,_,_)=>none
  |r=>r
def fB(ops:Array Oper)(T:Tr Value)(o:Oper):Option Bool:=
 match o.guard with
 |none=>some true
 |some (j,want)=>match(ops[j]?).bind (·.dst) with
  |some d=>match T.get d with
   |some (.bool b)=>some (b==want)
   |some _=>some false
   |none=>none
  |none=>none
def pY(o:Oper)(r:AR)(s:St):Option St:=
 match o.dst,r with
 |none,_=>some s
 |some d,.val v=>bif Nat.blt d s.n then some {s with T:=s.T.set d (some v)} else none
 |some d,.skip=>bif Nat.blt d s.n then some {s with T:=s.T.set d (some undef)} else none
def xH(P:Program)(GL:List Nat)(callF:dD)(ops:Array Oper):List Oper->St->Option St
 | [],s=>some s
 |o::rest,s=>match fB ops s.T o with
  |some true=>match jY P GL callF o s.T s.M with
   |some (_,r,M')=>match pY o r {s with M:=M'} with
    |some s'=>xH P GL callF ops rest s'
    |none=>none
   |none=>none
  |some false=>match pY o .skip s with
   |some s'=>xH P GL callF ops rest s'
   |none=>none
  |none=>none
structure jW where
 ix:Nat
 loud:Nat
 lo:Nat
 hi:Nat
def aP(deps:Nat):List jW->List (Nat×Nat)
 | []=>[]
 |d::l=>bif Nat.beq d.loud 0||deps.testBit d.ix||Nat.beq d.lo d.hi then aP deps l else(d.lo,d.hi)::aP deps l
def sD(deps:Nat)(loud:Nat):List jW->Bool
 | []=>true
 |d::l=>(Nat.beq d.loud 0||Nat.beq loud 0||deps.testBit d.ix||(Nat.beq d.loud 1&&Nat.beq loud 1))&&sD deps loud l
def xM(acc:List Nat):List Edge->Nat
 | []=>0
 |e::l=>bif Region.binds .any e then 2^e.on|||(acc[e.on]?).getD 0|||xM acc l else xM acc l
def bK:List Oper->List Nat->List Nat
 | [],acc=>acc
 |o::l,acc=>bK l (acc++ [xM acc o.after.toList])
def Th(o:Oper):Bool:=match o.op with| .load _ _=>true|_=>false
def Yc(o:Oper):Bool:=match o.op with| .call c=>(match c.callee with| .builtin .append=>true| .builtin _=>false|_=>true)| .store _ _ _=>true|_=>false
def Cy(i di:Nat):List Oper->List Nat->Nat->Bool
 |o::l,d::ds,j=>(Yc o&&not (di.testBit j)&&not (d.testBit i))||Cy i di l ds (j+1)
 |_,_,_=>false
def Jg(ops:List Oper):Operand->Option Nat
 | .tmp t=>match ops.find? (fun o=>o.dst==some t) with
  |some o=>(match o.op with| .fieldAddr _ (.tmp y) _=>some y|_=>some t)
  |none=>some t
 |_=>none
def Ax(ops:List Oper)(i b:Nat):List Oper->List Nat->Bool
 |o::l,d::ds=>(match o.op with
  | .store _ x _=>d.testBit i&&(match Jg ops x with|some b'=>Nat.beq b b'|none=>false)
  |_=>false)||Ax ops i b l ds
 |_,_=>false
def Ef(ops:List Oper)(before:List Nat)(i:Nat)(o:Oper):Bool:=
 match o.op with
 | .load _ x=>(match Jg ops x with|some b=>Ax ops i b ops before|none=>false)
 |_=>false
def lJ(ops:List Oper)(before:List Nat):List Oper->List Nat->Nat->List Nat
 |o::l,d::ds,i=>bif (Th o&& !(Ef ops before i o))&&Cy i d ops before 0 then i::lJ ops before l ds (i+1) else lJ ops before l ds (i+1)
 |_,_,_=>[]
def eX(b:Nat):List Nat->Bool
 | []=>false
 |x::l=>Nat.beq x b||eX b l
def bZ:List Nat->List Nat->Bool
 | [],_=>true
 |b::S,l=>not (eX b l)&&bZ S l
def Ii(GL:List Nat)(o:Oper)(T:Tr Value)(n0:Nat):Option Nat:=
 match o.op with
 | .load _ x=>match ev GL T x with
  |some (.pointer (some a))=>bif Nat.blt a.block n0 then some a.block else none
  |_=>none
 |_=>none
def oJ(GL:List Nat)(sl:List Nat)(n0:Nat)(o:Oper)(i:Nat)(T:Tr Value):Option Nat:=bif eX i sl then Ii GL o T n0 else none
def fK(s:St):St:={s with M:={s.M with log:=[]}}
def Fu(s s':St):St:={s' with M:={s'.M with log:=s'.M.log++s.M.log}}
def tQ(o:Oper):Bool:=o.guard.isNone&&(match o.op with
 | .move _| .assign _| .nilCheck _| .fieldAddr _ _ _| .indexAddr _ _ _| .store _ _ _=>true
 |_=>false)
def fZ(o:Oper):Bool:=match o.op with| .store _ _ _=>true|_=>false
def uL(d:Nat):List Oper->Nat->Bool
 | [],_=>true
 |o::l,i=>(d.testBit i||tQ o)&&uL d l (i+1)
def Hh(d:Nat):List Oper->Nat->Bool
 | [],_=>false
 |o::l,i=>(fZ o&& !(d.testBit i))||Hh d l (i+1)
def Uo(o:Oper):Bool:=match o.op with| .call c=>(match c.callee with| .builtin _=>false|_=> !(c.argTypes.toList.all fun t=>Nat.beq t 3||Nat.beq t 4))|_=>false
def Xr(i di:Nat):List Oper->List Nat->Nat->Bool
 |o::l,d::ds,j=>(Uo o&&not (di.testBit j)&&not (d.testBit i))||Xr i di l ds (j+1)
 |_,_,_=>false
def Lo(ops:List Oper)(before:List Nat):List Oper->List Nat->Nat->Bool
 |o::l,d::ds,i=>(Th o&&Ef ops before i o&&Xr i d ops before 0)||Lo ops before l ds (i+1)
 |_,_,_=>false
def zL(ops:List Oper)(before:List Nat):Bool:=Lo ops before ops before 0
def uV(ops:List Oper)(before:List Nat):List Nat:=bif zL ops before then lJ ops.dropLast before ops.dropLast before 0 else lJ ops before ops before 0
def lE(ops:List Oper)(before:List Nat):Option Oper:=
 match ops[ops.length-1]?,before[ops.length-1]? with
 |some f,some d=>bif fZ f&&f.guard.isNone&&f.dst.isNone&&uL d ops.dropLast 0&&(Hh d ops.dropLast 0||zL ops before) then some f else none
 |_,_=>none
def Bg(o:Oper):Bool:=match o.op with
 | .alloc _| .box _ _| .makeSlice _ _ _| .buildSlice _ _ _=>true
 |_=>false
def tX(o:Oper):Bool:=match o.op with
 | .store _ _ _=>true
 | .call c=>(match c.callee with| .builtin .append=>true|_=>false)
 |_=>false
def Dr(ops:Array Oper)(p:Oper->Bool)(i:Nat):Bool:=match ops[i]? with|some o=>p o|none=>false
def Pb(ops:Array Oper)(o:Oper)(deps loud:Nat):List jW->Bool
 | []=>true
 |d::l=>(Nat.beq d.loud 0||Nat.beq loud 0||deps.testBit d.ix||(Nat.beq d.loud 1&&Nat.beq loud 1)||
   (Bg o&&Nat.beq loud 1&&Dr ops tX d.ix)||(fZ o&&Nat.beq d.loud 1&&Dr ops Bg d.ix))&&Pb ops o deps loud l
def mI(ops:Array Oper):Bool:=(lE ops.toList (bK ops.toList [])).isNone
def wL(ops:Array Oper)(o:Oper)(deps loud:Nat)(dn:List jW):Bool:=sD deps loud dn||(mI ops&&Pb ops o deps loud dn)
def pZ(P:Program)(GL:List Nat)(callF:dD)(ops:Array Oper)(before:List Nat):List Oper->Nat->List jW->St->Option St
 | [],_,_,s=>some s
 |o::rest,i,dn,s=>match fB ops s.T o,before[i]? with
   |some true,some deps=>match jY P GL callF o s.T {s.M with hide:=aP deps dn++s.M.hide} with
    |some (k,r,M')=>bif wL ops o deps k dn then
      match pY o r {s with M:={M' with hide:=s.M.hide}} with
      |some s'=>pZ P GL callF ops before rest (i+1) (⟨i,k,s.M.next,M'.next⟩::dn) s'
      |none=>none
     else none
    |none=>none
   |some false,some _=>match pY o .skip s with
    |some s'=>pZ P GL callF ops before rest (i+1) dn s'
    |none=>none
   |_,_=>none
def lP(P:Program)(GL:List Nat)(callF:dD)(ops:Array Oper)(before sl:List Nat)(n0:Nat):List Oper->Nat->List jW->List Nat->St->Option (St×List Nat)
 | [],_,_,S,s=>some (s,S)
 |o::rest,i,dn,S,s=>match fB ops s.T o,before[i]? with
   |some true,some deps=>match jY P GL callF o s.T {s.M with hide:=aP deps dn++s.M.hide} with
    |some (k,r,M')=>match oJ GL sl n0 o i s.T with
     |some b=>match pY o r s with
      |some s'=>lP P GL callF ops before sl n0 rest (i+1) dn (b::S) s'
      |none=>none
     |none=>bif wL ops o deps k dn then
       match pY o r {s with M:={M' with hide:=s.M.hide}} with
       |some s'=>lP P GL callF ops before sl n0 rest (i+1) (⟨i,k,s.M.next,M'.next⟩::dn) S s'
       |none=>none
      else none
    |none=>none
   |some false,some _=>match pY o .skip s with
    |some s'=>lP P GL callF ops before sl n0 rest (i+1) dn S s'
    |none=>none
   |_,_=>none
def Dh(P:Program)(t:TypeId):Nat:=match P.underlying t with
 |some d=>bif eC d then(match P.info? t with|some i=>i.size|none=>0) else 1
 |none=>0
def Eh(GL:List Nat)(sl:List Nat)(n0:Nat)(o:Oper)(i:Nat)(T:Tr Value):Option (TypeId×Addr):=bif eX i sl then
  (match o.op with
  | .load t x=>match ev GL T x with
   |some (.pointer (some a))=>bif Nat.blt a.block n0 then some (t,a) else none
   |_=>none
  |_=>none)
 else none
def yE(GL:List Nat)(o:Oper)(T:Tr Value):List (Nat×Nat×Nat):=match o.op with
 | .store _ x y=>match ev GL T x,ev GL T y with
  |some (.pointer (some a)),some v=>[(a.block,a.off,v.cells.toList.length)]
  |_,_=>[]
 |_=>[]
def qP(P:Program)(GL:List Nat)(callF:dD)(ops:Array Oper)(before sl:List Nat)(n0:Nat):List Oper->Nat->List jW->List (TypeId×Addr)->List (Nat×Nat×Nat)->St->Option (St×List (TypeId×Addr)×List (Nat×Nat×Nat))
 | [],_,_,S,W,s=>some (s,S,W)
 |o::rest,i,dn,S,W,s=>match fB ops s.T o,before[i]? with
   |some true,some deps=>match jY P GL callF o s.T {s.M with hide:=aP deps dn++s.M.hide} with
    |some (k,r,M')=>match Eh GL sl n0 o i s.T with
     |some b=>match pY o r s with
      |some s'=>qP P GL callF ops before sl n0 rest (i+1) dn (b::S) W s'
      |none=>none
     |none=>bif wL ops o deps k dn&&(Nat.ble k 1||fZ o) then
       match pY o r {s with M:={M' with hide:=s.M.hide}} with
       |some s'=>qP P GL callF ops before sl n0 rest (i+1) (⟨i,k,s.M.next,M'.next⟩::dn) S (yE GL o s.T++W) s'
       |none=>none
      else none
    |none=>none
   |some false,some _=>match pY o .skip s with
    |some s'=>qP P GL callF ops before sl n0 rest (i+1) dn S W s'
    |none=>none
   |_,_=>none
def yP(off n b:Nat):List (Nat×Nat×Nat)->Bool
 | []=>true
 |(b',o',n')::W=>(!(Nat.beq b' b)||Nat.ble (o'+n') off||Nat.ble (off+n) o')&&yP off n b W
def yO(P:Program):List (TypeId×Addr)->List (Nat×Nat×Nat)->Bool
 | [],_=>true
 |(t,a)::S,W=>yP a.off (Dh P t) a.block W&&yO P S W
def xC(P:Program)(GL:List Nat)(callF:dD)(ops:Array Oper)(sl:List Nat)(s:St):Option St:=
 match qP P GL callF ops (bK ops.toList []) sl s.M.next ops.toList 0 [] [] [] (fK s) with
 |some (s',S,W)=>bif yO P S W then some (Fu s s') else none
 |none=>none
def rW(P:Program)(GL:List Nat)(callF:dD)(ops:Array Oper)(s:St):Option St:=
 match lJ ops.toList (bK ops.toList []) ops.toList (bK ops.toList []) 0 with
 | []=>pZ P GL callF ops (bK ops.toList []) ops.toList 0 [] s
 |x::l=>match lP P GL callF ops (bK ops.toList []) (x::l) s.M.next ops.toList 0 [] [] (fK s) with
  |some (s',S)=>bif bZ S s'.M.log then some (Fu s s') else xC P GL callF ops (x::l) s
  |none=>none
def Vo(P:Program)(GL:List Nat)(f:Oper)(s s1:St):Option St:=
 match f.op with
 | .store t x y=>match ev GL s1.T x,ev GL s1.T y with
  |some (.pointer (some a)),some v=>match eB P t a v s1.M with
   |some M2=>bif Nat.blt a.block s.M.next&& !(eX a.block s1.M.log) then some (Fu s {s1 with M:=M2}) else none
   |none=>none
  |_,_=>none
 |_=>none
def Bz(P:Program)(GL:List Nat)(callF:dD)(ops:Array Oper)(f:Oper)(s:St):Option St:=
 match lP P GL callF ops (bK ops.toList []) (uV ops.toList (bK ops.toList [])) s.M.next ops.toList.dropLast 0 [] [] (fK s) with
 |some (s1,S)=>bif bZ S s1.M.log then Vo P GL f s s1 else none
 |none=>none
def oV(P:Program)(GL:List Nat)(callF:dD)(ops:Array Oper)(s:St):Option St:=
 match lE ops.toList (bK ops.toList []) with
 |some f=>Bz P GL callF ops f s
 |none=>rW P GL callF ops s
inductive cT where
 |normal
 |exit (id:Nat)
 |ret
 |goto (l:Nat)
def Js(P:Program)(s:St):ResultVar->Option Value
 | .tmp t=>s.T.get t
 | .cell a t=>match s.T.get a with
  |some (.pointer (some a))=>bA P t a s.M
  |_=>none
def Ac(P:Program)(s:St):List ResultVar->Option (List Value)
 | []=>some []
 |r::l=>match Js P s r,Ac P s l with
  |some v,some vs=>some (v::vs)
  |_,_=>none
def mD(P:Program)(fn:Func)(s:St):Option Value:=
 match Ac P s fn.results.toList with
 |some [v]=>some v
 |some vs=>some (.tuple vs.toArray)
 |none=>none
def mR:List Value->Nat->Tr Value->Tr Value
 | [],_,T=>T
 |v::l,i,T=>mR l (i+1) (T.set i (some v))
def mV(P:Program)(ih:Code->St->Option (cT×St))(f:FuncId)(args:List Value)(M:aB):Option (Value×aB):=
 match P.funcs[f]? with
 |some fn=>match fn.body with
  |some c=>
   bif Nat.ble args.length fn.ntmps then
    match ih c ⟨mR args 0 .nil,fn.ntmps,M⟩ with
    |some (.normal,s)|some (.ret,s)=>match mD P fn s with
     |some v=>some (v,s.M)
     |none=>none
    |_=>none
   else none
  |none=>none
 |none=>none
def kY(ops:Array Oper):Bool:=Region.lexB .any ops
structure dC where
 calls:FuncId->Option (List Value->aB->Option (Value×aB))
 blocks:Nat->Option (Code->St->Option (cT×St))
def fV(SP:dC)(callF:dD):dD:=fun f args M=>
 match SP.calls f with
 |some g=>g args M
 |none=>callF f args M
def tL(ih:Code->St->Option (cT×St))(c:Code):Nat->Code->St->Option (cT×St)
 |0,_,_=>none
 |n+1,d,s=>match ih d s with
  |some (.goto l,s')=>match findLabel c l with
   |some rest=>tL ih c n rest s'
   |none=>some (.goto l,s')
  |r=>r
def qY(P:Program)(GL:List Nat)(SP:dC)(ih:Code->St->Option (cT×St))(c:Code)(s:St):Option (cT×St):=
 match c with
 | .skip=>some (.normal,s)
 | .region _ ops draw=>
  bif draw then
   bif kY ops then
    match oV P GL (fV SP (mV P ih)) ops s with
    |some s'=>some (.normal,s')
    |none=>none
   else none
  else match xH P GL (fV SP (mV P ih)) ops ops.toList s with
   |some s'=>some (.normal,s')
   |none=>none
 | .seq a b=>match ih a s with
  |some (.normal,s')=>ih b s'
  |r=>r
 | .cond c x y=>match ev GL s.T c with
  |some (.bool t)=>ih (bif t then x else y) s
  |_=>none
 | .block id b=>match SP.blocks id with
  |some g=>g b s
  |none=>match ih b s with
   |some (.exit i,s')=>bif Nat.beq i id then some (.normal,s') else some (.exit i,s')
   |r=>r
 | .loop b=>match ih b s with
  |some (.normal,s')=>ih (.loop b) s'
  |r=>r
 | .exit id=>some (.exit id,s)
 | .ret=>some (.ret,s)
 | .label _=>some (.normal,s)
 | .goto l=>some (.goto l,s)
 | .scope c=>tL ih c 100000 c s
 |_=>none
def Cb(P:Program)(GL:List Nat)(SP:dC)(n:Nat):Code->St->Option (cT×St):=
 Nat.rec (fun _ _=>none) (fun _ ih=>qY P GL SP ih) n
def arun(P:Program)(GL:List Nat)(SP:dC)(n:Nat):FuncId->List Value->aB->Option (Value×aB):=mV P (Cb P GL SP n)
def Bp:dC:=⟨fun _=>none,fun _=>none⟩
end
end Go.Am
