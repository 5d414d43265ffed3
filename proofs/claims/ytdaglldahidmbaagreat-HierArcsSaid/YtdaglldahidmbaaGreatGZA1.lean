/-
  Package hier: each of its laws for every argument; no conditions. The last text states which.
-/
import Derived.Test.YtdaglldahidmbaaGreatGAM1
import Derived.Test.YtdaglldahidmbaaGreatGAmTn
set_option linter.unusedVariables false
set_option linter.unusedSimpArgs false
open Go Go.Am Go.Proofs Tryz
namespace Go.Proofs.YtdaglldahidmbaaGreat
set_option maxRecDepth 100000
theorem rwk(q eb eo L ec lb lo m lc n i:Nat)(W:List Int)(S:Value)(w c a:Int)(e:E4){M M0:aB}(hM:aA M)(X0:Ext M0 M)(heb:eb<M0.next)(hlb:lb<M0.next)(gq:M.get q=some ⟨[i64 n,aC eb eo L ec],26,2,0,true⟩)(nq:M0.next<=q)(ha:0<=a/\a<(L:Int))(hW30:W.length<1000000)(hA:cR 3 1 M0 [q] W.length (W.map i64) S M)(a4:(decide ((i:Int)<(m:Int)))=true)(a1:bA prog 3 ⟨lb,lo+((i:Int):Int).toNat*1,none⟩ M0=some (i64 a))(b9:bA prog 3 ⟨eb,eo+(a:Int).toNat*4,none⟩ M0=some (i64 e.f))(c0:bA prog 46 ⟨eb,eo+(a:Int).toNat*4,none⟩ M0=some (.agg ⟨(cD e)⟩)): ∃T1 M' a2,Rd prog [] (q18.loopAt 0) Tryz.f18.ntmps (fr [(1,(i64 e.f)),(2,(i64 w)),(3,(aC lb lo m lc)),(4,(pt q 0)),(11,(i64 c)),(12,S),(13,(i64 (i:Int)))]) M .normal T1 M'/\ [1,2,3,4,11,12,13].map T1.get= [some (i64 e.t),some (i64 w),some (aC lb lo m lc),some (pt q 0),some (i64 (IntKind.wrap .i64 (c+e.c))),some a2,some (i64 (IntKind.wrap .i64 ((i:Int)+(1:Int))))]/\Ext M0 M'/\aA M'/\M'.get q=some ⟨[i64 (n:Int),aC eb eo L ec],26,2,0,true⟩/\cR 3 1 M0 [q] (W.length+1) ((W.map i64)++ [i64 e.m]) a2 M':=by
 obtain⟨b1,M2,a9,d4,g5,E6,d7⟩:=bC hM ⟨[i64 0,i64 0,i64 0,i64 0],46,4,0,true⟩
 have d9:=lQ a9 X0
 have b4:=fJ gq a9
 have A8:=hA.new a9 E6
 have g9:=E6.old gq
 have d1:=X0.trans E6
 obtain⟨a3,e2,a5,a6,c3,b6,e1⟩:=aZ (o:=0) (v:=(.agg ⟨(cD e)⟩)) (new:= (cD e)) d1 d9 d7 nT g5 rfl rfl (Nat.zero_le _) (xAd rfl) rfl
 have c8:=A8.keep (by simp) (fun id h _=>a6 id h)
 have c5:=(a6 _ b4).trans g9
 obtain⟨b3,b2,a0,b5,c6,a7,b7⟩:=bC b6 ⟨[i64 e.m],3,1,0,true⟩
 have e0:=lQ a0 c3
 have c4:=fJ c5 a0
 have db1b21:=fJ a5 a0
 have c9:=c8.new a0 a7
 have c7:=a7.old c5
 have d5:=a7.old a5
 have d2:=c3.trans a7
 obtain⟨b0,a2,a8,e3,d3,b8,d0,c2,d8⟩:=fX (P:=prog) (sT:=22) (xT:=22) (y:=8) (c:=2) c9 d2 b7 (by intro x hx;simp only [List.mem_cons,List.not_mem_nil,or_false] at hx;rcases hx with rfl|rfl|rfl<;>first|exact aB.lt_of_get c6|exact aB.lt_of_get d5|exact aB.lt_of_get c7) (by kernel_rfl) (by kernel_rfl) (by kernel_rfl) (by kernel_rfl) (by decide) (by decide) rfl (show W.length<1073741824 by omega) c6 (o:=0) (new:= [i64 e.m]) rfl rfl rfl
 have d6:=c2 _ _ c7 (by simp)
 have c1:oR prog [] 200 Tryz.f18 (q18.loopAt 0) [(1,(i64 e.f)),(2,(i64 w)),(3,(aC lb lo m lc)),(4,(pt q 0)),(11,(i64 c)),(12,S),(13,(i64 (i:Int)))] M [aQ 8,aQ 14,aR 16 (i64 a),aO 21,aO 23,aO 25,aQ 26,aO 27,aR 28 (i64 a),aO 29,aO 31,aR 32 (aC eb eo L ec),aO 33,aO 35,aO 38,aO 41,aO 43,aR 44 (aC eb eo L ec),aO 45,aO 47,aO 49,aQ 50,aO 51,aR 52 (i64 a),aO 53,aQ 54,aO 55,aO 57,aR 58 (i64 e.f),aO 59,aO 61,aO 64,aO 65,aR 69 (aC eb eo L ec),aQ 75,aR 77 (i64 a),aQ 79,aR 81 (.agg ⟨(cD e)⟩),bJ 83 (pt b1 0) M2,jE 85 a3,aR 89 (i64 e.t),aR 95 (i64 e.c),aR 107 (i64 e.m),bJ 109 (aC b3 0 1 2) b2,.at 111 ((bif b0 then 1 else 2),.val a2,a8)] [1,2,3,4,11,12,13]=some (.normal,[some (i64 e.t),some (i64 w),some (aC lb lo m lc),some (pt q 0),some (i64 (IntKind.wrap .i64 (c+e.c))),some a2,some (i64 (IntKind.wrap .i64 ((i:Int)+(1:Int))))],a8,[qT (decide ((i:Int)<(m:Int))),.q (.inb (i:Int) m) (eD true),qL 3 lb (lo+((i:Int):Int).toNat*1) M (i64 a),qF (decide (a<(0:Int))),qF (decide (a<(0:Int))),qF (decide (a<(0:Int))),.q (.inb (i:Int) m) (eD true),qF (decide (a<(0:Int))),qL 3 lb (lo+((i:Int):Int).toNat*1) M (i64 a),qF (decide (a<(0:Int))),qF (decide (a<(0:Int))),qL 24 q 1 M (aC eb eo L ec),qF (decide (a<(0:Int))),qF (decide (a<(0:Int))),qF (decide (a<(0:Int))),qF (decide (a>=(L:Int))),qF (decide (a>=(L:Int))),qL 24 q 1 M (aC eb eo L ec),qF (decide (a>=(L:Int))),qF (decide (a>=(L:Int))),qF (decide (a>=(L:Int))),.q (.inb (i:Int) m) (eD true),qF (decide (a>=(L:Int))),qL 3 lb (lo+((i:Int):Int).toNat*1) M (i64 a),qF (decide (a>=(L:Int))),.q (.inb a L) (eD true),qF (decide (a>=(L:Int))),qF (decide (a>=(L:Int))),qL 3 eb (eo+(a:Int).toNat*4) M (i64 e.f),qF (decide (a>=(L:Int))),qF (decide (a>=(L:Int))),qF (decide (a>=(L:Int))),qF (!(e.f==e.f)),qL 24 q 1 M (aC eb eo L ec),.q (.inb (i:Int) m) (eD true),qL 3 lb (lo+((i:Int):Int).toNat*1) M (i64 a),.q (.inb a L) (eD true),qL 46 eb (eo+(a:Int).toNat*4) M (.agg ⟨(cD e)⟩),.eq (cM prog 46 M) (1,.val (pt b1 0),M2),qS 46 b1 0 (.agg ⟨(cD e)⟩) M2 a3,qL 3 b1 1 a3 (i64 e.t),qL 3 b1 3 a3 (i64 e.c),qL 3 b1 2 a3 (i64 e.m),.eq (bH prog 22 1 [(0,(i64 e.m))] a3) (1,.val (aC b3 0 1 2),b2),.q (.append [22,22] S (aC b3 0 1 2) b2) ((bif b0 then 1 else 2),.val a2,a8)]):=by cases b0<;>kernel_rfl
 obtain⟨T1,h1,h2⟩:=Rd.told aG aF (aI prog) (fun _ _=>rfl) c1 (hk (bT a4) (hk (dE (by omega) (by simp at a4;omega)) (hk (eO (aN X0 a1)) (hk (bF (xAa (by omega))) (hk (bF (xAa (by omega))) (hk (bF (xAa (by omega))) (hk (dE (by omega) (by simp at a4;omega)) (hk (bF (xAa (by omega))) (hk (eO (aN X0 a1)) (hk (bF (xAa (by omega))) (hk (bF (xAa (by omega))) (hk (lC nL gq rfl) (hk (bF (xAa (by omega))) (hk (bF (xAa (by omega))) (hk (bF (xAa (by omega))) (hk (bF (xAa (by omega))) (hk (bF (xAa (by omega))) (hk (lC nL gq rfl) (hk (bF (xAa (by omega))) (hk (bF (xAa (by omega))) (hk (bF (xAa (by omega))) (hk (dE (by omega) (by simp at a4;omega)) (hk (bF (xAa (by omega))) (hk (eO (aN X0 a1)) (hk (bF (xAa (by omega))) (hk (dE (by omega) (by omega)) (hk (bF (xAa (by omega))) (hk (bF (xAa (by omega))) (hk (eO (aN X0 b9)) (hk (bF (xAa (by omega))) (hk (bF (xAa (by omega))) (hk (bF (xAa (by omega))) (hk (bF (dA _)) (hk (lC nL gq rfl) (hk (dE (by omega) (by simp at a4;omega)) (hk (eO (aN X0 a1)) (hk (dE (by omega) (by omega)) (hk (eO (aN X0 c0)) (hk (bN (by rw[<-a9,<-d4];kernel_rfl) xAc) (hk (dB e2) (hk (lC bQ a5 rfl) (hk (lC bQ a5 rfl) (hk (lC bQ a5 rfl) (hk (bN (by rw[<-a0,<-b5];kernel_rfl) xAc) (hk (kB e3 (by cases b0<;>simp)) hn)))))))))))))))))))))))))))))))))))))))))))))
 exact⟨T1,a8,a2,h1,h2,d3,b8,d6,d0.less (by intro x hx;simp only [List.mem_cons,List.not_mem_nil,or_false] at hx⊢;omega)⟩
theorem rwkx(q m lc i:Nat)(la:Option Addr)(u w c:Int)(S:Value){M:aB}(a1:la.isNone=true->m=0/\lc=0)(a0:(decide ((i:Int)<(m:Int)))=false): ∃T1,Rd prog [] (q18.loopAt 0) Tryz.f18.ntmps (fr [(1,(i64 u)),(2,(i64 w)),(3,(.slice la m lc)),(4,(pt q 0)),(11,(i64 c)),(12,S),(13,(i64 (i:Int)))]) M (.exit 0) T1 M/\ [1,2,11,12].map T1.get= [some (i64 u),some (i64 w),some (i64 c),some S]:=by
 exact Rd.told (tb:=[]) (n:=60) (F:=[aQ 5,aO 8]) aG aF (aI prog) (fun _ _=>rfl) (by kernel_rfl) (hk (lN a1) (hk (bF a0) hn))
def Ld(es:List E4)(i:Int):Int:=((es[i.toNat]?).map (·.m)).getD 0
structure WkS where
 u:Int
 c:Int
 S:Value
theorem aAl{q qc lc n:Nat}{qa la:Option Addr}{es:List E4}{l:List Int}{u w md:Int}{M0 M:aB}(pq:aS es (.slice qa es.length qc) M0)(pl:aH l (.slice la l.length lc) M0)(a1:iQ n es)(b1:mY es md u l w)(hll:l.length<=100)(hM:aA M)(X0:Ext M0 M)(gq:M.get q=some ⟨[i64 n,.slice qa es.length qc],26,2,0,true⟩)(nq:M0.next<=q):
  ∃S' M',bL prog [] (q18.loopAt 0) Tryz.f18.ntmps (fr [(1,i64 u),(2,i64 w),(3,.slice la l.length lc),(4,pt q 0),(11,i64 0),(12,eW),(13,i64 ((0:Nat):Int))]) M (.exit 0) (fr [(1,i64 w),(2,i64 w),(11,i64 (qV es l)),(12,S')]) M'/\Ext M0 M'/\aA M'/\cR 3 1 M0 [q] (l.map (Ld es)).length ((l.map (Ld es)).map i64) S' M':=by
 obtain⟨s',M',k1,k2,k3,k4,k5,k6,k7⟩:=bL.for (P:=prog) (GL:= []) (b:=q18.loopAt 0) (nt:=Tryz.f18.ntmps) (id:=0) (σ:=WkS) (n:=l.length) (Inv:=fun i s M1=>Ext M0 M1/\aA M1/\M1.get q=some ⟨[i64 n,.slice qa es.length qc],26,2,0,true⟩/\cR 3 1 M0 [q] ((l.take i).map (Ld es)).length (((l.take i).map (Ld es)).map i64) s.S M1/\mY es md s.u (l.drop i) w/\s.c=qV es (l.take i))
  (F:=fun i s=> [(1,i64 s.u),(2,i64 w),(3,.slice la l.length lc),(4,pt q 0),(11,i64 s.c),(12,s.S),(13,i64 ((i:Nat):Int))]) (O:=fun s=> [(1,i64 s.u),(2,i64 w),(11,i64 s.c),(12,s.S)])
  (by
   rintro i ⟨u,c,S⟩ M1 hi ⟨X1,a4,a3,hA,hw,hc⟩
   simp only at hA hw hc
   obtain⟨lb,lo,rfl,_⟩:=bU pl (by omega)
   have ht:l[i]?=some l[i]:=xAe hi
   rw[List.drop_eq_getElem_cons hi] at hw
   obtain⟨a6,e,he,rfl,hm,b0⟩:=hw
   have hlt:=(xAg.1 he).1
   obtain⟨eb,eo,rfl,_⟩:=bU pq (by omega)
   have l1:=iX (P:=prog) (ty:=3) pl ht rfl bQ
   have l2:=kP (P:=prog) (ty:=46) pq he tL nT
   have l3:bA prog 3 ⟨eb,eo+(l[i]:Int).toNat*4,none⟩ M0=some (i64 e.f):=mF (P:=prog) (ty:=3) pq he (j:=0) rfl bQ
   have a8:=Go.Am.jL pl (by omega)
   have a0:=Go.Am.jL pq (by omega)
   have a5:l.take (i+1)=l.take i++ [l[i]]:=List.take_succ_eq_append_getElem hi
   have a2:((l.take i).map (Ld es)).length<1000000:=by rw[List.length_map,List.length_take];omega
   have a9:Ld es l[i]=e.m:=by unfold Ld;rw[he];rfl
   have a7:dS es l[i]=e.c:=tK he
   have c0:=zY a1 (l.take i)
   have c1:=Pb a1 (l.take i)
   have b2:(l.take i).length=i:=by rw[List.length_take];omega
   obtain⟨_,_,_,e4⟩:=a1 e (xAh he)
   obtain⟨T1,M2,S2,q1,q2,q3,q4,q5,q6⟩:=rwk q eb eo es.length qc lb lo l.length lc n i ((l.take i).map (Ld es)) S w c l[i] e a4 X1 a0 a8 a3 nq ⟨a6,by omega⟩ a2 hA (xAb (by omega)) (by rw[Int.toNat_natCast];exact l1) l3 l2
   rw[bD (by omega),Go.Am.eG (i:=c+e.c) (by omega) (by omega)] at q2
   refine⟨⟨e.t,c+e.c,S2⟩,T1,M2,q1,q2,q3,q4,q5,?_,b0,?_⟩
   ·rw[a5,List.map_append,List.length_append,List.map_append,List.map_singleton,List.map_singleton,a9]
    exact q6
   ·simp only
    rw[a5,yK,hc]
    show qV es (l.take i)+e.c=qV es (l.take i)+(dS es l[i]+0)
    rw[a7,Int.add_zero])
  (by
   rintro⟨u,c,S⟩ M1 ⟨X1,a4,a3,hA,hw,hc⟩
   exact rwkx q l.length lc l.length la u w c S (M:=M1) pl.ln (xAa (by omega)))
  l.length 0 (by omega) (s:=⟨u,0,eW⟩) (M:=M) ⟨X0,hM,gq,.inl ⟨rfl,rfl,rfl⟩,b1,rfl⟩
 rw[List.drop_length] at k6
 rw[List.take_length] at k5 k7
 obtain⟨u',c',S'⟩:=s'
 simp only at k1 k5 k6 k7
 have k6:u'=w:=k6
 subst k6
 subst k7
 exact⟨S',M',k1,k2,k3,k5⟩
open Tryz
theorem rK18:Tryz.f18.results= #[.tmp 8,.tmp 9,.tmp 10]:=by kernel_rfl
theorem w18(n:Nat)(qa:Option Addr)(qc:Nat)(la:Option Addr)(lc:Nat)(es:List E4)(l:List Int)(u w md:Int){M:aB}(hM:aA M)(pq:aS es (.slice qa es.length qc) M)(pl:aH l (.slice la l.length lc) M)(b0:iQ n es)(b3:mY es md u l w)(b2:l.length<=100)(hu:0<=u/\u<(n:Int))(hw:0<=w/\w<(n:Int)): ∃v_ M',Ev prog [] 18 [.agg ⟨[i64 n,.slice qa es.length qc]⟩,i64 u,i64 w,.slice la l.length lc] M v_ M'/\Ext M M'/\aA M'/\ ∃W,v_= .tuple #[i64 (qV es l),W,.bool true]/\iE aH (l.map (Ld es)) M.next W M':=by
 obtain⟨b1,M2,a5,a8,g5,E6,a9⟩:=bC hM ⟨[i64 (n:Int),.slice qa es.length qc],26,2,0,true⟩
 have b4:M.next<=b1:=by rw[<-a5];exact(Ext.refl M).next
 have X9:=(Ext.refl M).trans E6
 obtain⟨a0,a1,a2,a7,a3,a6⟩:=aAl pq pl b0 b3 b2 a9 X9 g5 b4
 have a4:oT3 prog [0] 60 Tryz.f18 q18 [.agg ⟨[i64 n,.slice qa es.length qc]⟩,i64 u,i64 w,.slice la l.length lc] M [bJ 1 (pt b1 0) M2,aO 14,aO 16,aO 18,aR 19 (i64 (n:Int)),aO 20,aO 23,aO 26,aO 28,aO 31,aO 34,aO 36,aO 38,aR 39 (i64 (n:Int)),aO 40,aO 43,aO 44,.blk 51 [1,2,3,4,11,12,13] .normal (fr [(1,(i64 w)),(2,(i64 w)),(11,(i64 (qV es l))),(12,a0)]) a1,aO 58] [8,9,10]=some (.ret,[some (i64 (qV es l)),some a0,some (.bool true)],a1,[.eq (eI prog 26 (.agg ⟨[i64 (n:Int),.slice qa es.length qc]⟩) M) (1,.val (pt b1 0),M2),qF (decide (u<(0:Int))),qF (decide (u<(0:Int))),qF (decide (u<(0:Int))),qL 3 b1 0 M2 (i64 (n:Int)),qF (decide (u<(0:Int))),qF (decide (u<(0:Int))),qF (decide (u>=(n:Int))),qF (decide (u>=(n:Int))),qF (decide (u>=(n:Int))),qF (decide (w<(0:Int))),qF (decide (w<(0:Int))),qF (decide (w<(0:Int))),qL 3 b1 0 M2 (i64 (n:Int)),qF (decide (w<(0:Int))),qF (decide (w<(0:Int))),qF (decide (w>=(n:Int))),.blk 0 (.loop (q18.loopAt 0)) Tryz.f18.ntmps [1,2,3,4,11,12,13] [some (i64 u),some (i64 w),some (.slice la l.length lc),some (pt b1 0),some (i64 0),some eW,some (i64 0)] M2 .normal (fr [(1,(i64 w)),(2,(i64 w)),(11,(i64 (qV es l))),(12,a0)]) a1,qF (!(w==w))]):=by kernel_rfl
 exact⟨.tuple #[i64 (qV es l),a0,.bool true],a1,Ev.told_three aG aF Tryz.func18 aAC (by kernel_rfl) rK18 (fun B=>wR (gL B) 0 a2) (fun _ h=>bZ h) a4 (hk (bN (by rw[<-a5,<-a8];kernel_rfl) xAc) (hk (bF (xAa (by omega))) (hk (bF (xAa (by omega))) (hk (bF (xAa (by omega))) (hk (lC bQ g5 rfl) (hk (bF (xAa (by omega))) (hk (bF (xAa (by omega))) (hk (bF (xAa (by omega))) (hk (bF (xAa (by omega))) (hk (bF (xAa (by omega))) (hk (bF (xAa (by omega))) (hk (bF (xAa (by omega))) (hk (bF (xAa (by omega))) (hk (lC bQ g5 rfl) (hk (bF (xAa (by omega))) (hk (bF (xAa (by omega))) (hk (bF (xAa (by omega))) (hk (fB rfl) (hk (bF (dA _)) hn))))))))))))))))))),a7,a3,⟨a0,rfl,sU a6 (by rw[List.length_map];omega)⟩⟩
def pWk(x:Int×List Int)(nx:Nat)(v:Value)(M:aB):Prop:= ∃W,v= .tuple #[i64 x.1,W,.bool true]/\iE aH x.2 nx W M
instance:AQ pWk:=⟨fun hE ⟨W,h1,h2⟩=>⟨W,h1,AQ.ext (R:=iE aH) hE h2⟩⟩
abbrev Q18:=FC (gN (Sd mN pI pI aH) fun x=>(iQ x.1.1 x.1.2/\x.2.2.2.length<=100)/\x.2.2.2≠ []/\ ∃md,mY x.1.2 md x.2.1 x.2.2.2 x.2.2.1) pWk (fun x=>(qV x.1.2 x.2.2.2,x.2.2.2.map (Ld x.1.2)))
theorem con18{x:(Nat×List E4)×Int×Int×List Int}{lv:List Value}{M:aB}(hM:aA M)(h:(gN (Sd mN pI pI aH) fun x:(Nat×List E4)×Int×Int×List Int=>(iQ x.1.1 x.1.2/\x.2.2.2.length<=100)/\x.2.2.2≠ []/\ ∃md,mY x.1.2 md x.2.1 x.2.2.2 x.2.2.1) x lv M): ∃v M',kR prog [] 18 Q18 lv M v M':=by
 refine FC.con h ?_
 obtain⟨⟨g0,g1,g2,g3,rfl,k0,k1,k2,k3⟩,⟨a0,a2⟩,a3,md,a1⟩:=h
 obtain⟨⟨n,es⟩,u,w,l⟩:=x
 obtain⟨_,rfl,k0⟩:=k0
 obtain rfl:=k1
 obtain rfl:=k2
 obtain⟨qa,qc,rfl⟩:=aJ.form k0
 obtain⟨la,lc,rfl⟩:=aJ.form k3
 obtain⟨r1,r2,_⟩:=a1.range a0 a3
 obtain⟨v,M',q1,q2,_,q3⟩:=w18 n qa qc la lc es l u w md hM k0 k3 a0 a1 a2 r1 r2
 exact⟨v,M',q1,q2,q3⟩
def sQ(l:List Int)(nx:Nat)(v:Value)(M:aB):Prop:= ∃b c,v=aC b 0 l.length c/\(c=l.length\/c=l.length+1)/\nx<=b/\M.get b=some ⟨l.map i64,3,1,0,true⟩
instance:AQ sQ:=⟨fun hE ⟨b,c,h1,h2,h3,h4⟩=>⟨b,c,h1,h2,h3,hE _ _ h4⟩⟩
theorem sQ.keep{l:List Int}{nx nx':Nat}{v:Value}{M M':aB}(h:sQ l nx v M)(hn:nx'<=nx)(hE:Ext M M'):sQ l nx' v M':=by
 obtain⟨b,c,h1,h2,h3,h4⟩:=h
 exact⟨b,c,h1,h2,Nat.le_trans hn h3,hE.old h4⟩
theorem Uf{l1 l2:List Int}{a3 a9:Nat}{v1 v2:Value}{M0 M:aB}(hE:Ext M0 M)(hM:aA M)(h1:sQ l1 a3 v1 M)(h2:sQ l2 a9 v2 M)(a8:M0.next<=a3)(p1:1<=l1.length)(p2:1<=l2.length)(hl:l1.length+l2.length<1073741824):
  ∃t S' M1,cX prog [22,22] v1 v2 M=some ((bif t then 1 else 2),.val S',M1)/\Ext M0 M1/\aA M1/\sQ (l1++l2) M0.next S' M1/\ ∃b,a3<=b/\M1.log=(bif t then M.log else b::M.log):=by
 obtain⟨b1,c1,rfl,a7,a2,g1⟩:=h1
 obtain⟨b2,c2,rfl,b3,b0,g2⟩:=h2
 have a1:(l2.map i64).all isCell=true:=by rw[List.all_eq_true];intro x hx;obtain⟨y,_,rfl⟩:=List.mem_map.1 hx;rfl
 have a6:cP (l2.length*1) ((⟨l2.map i64,3,1,0,true⟩:aU).cs.drop 0)=some (l2.map i64):=by
  show cP (l2.length*1) ((l2.map i64).drop 0)=some (l2.map i64)
  rw[List.drop_zero]
  exact rI (by simp)
 have a5:cP (l1.length*1) (l1.map i64)=some (l1.map i64):=by
  exact rI (by simp)
 have a4:(l2.map i64).length=l2.length*1:=by simp
 have a0:(l1++l2).length=l1.length+l2.length:=List.length_append
 rcases a7 with rfl|rfl
 ·obtain⟨b',M1,e1,e2,e3,e4,e5,e6⟩:=tO hE (Nat.le_trans a8 a2) hM ⟨l1.map i64++l2.map i64,3,1,0,true⟩
  refine⟨false,aC b' 0 (l1.length+l2.length) (l1.length+l2.length),M1,?_,e4,e5,⟨b',l1.length+l2.length,by rw[a0],.inl a0.symm,by have:=hE.next;omega,by rw[List.map_append];exact e3⟩,b1,a2,by rw[<-e2];rfl⟩
  rw[<-e1,<-e2]
  exact Ch (by omega) (by kernel_rfl) (by kernel_rfl) (by kernel_rfl) (w:=1) (y:=8) (by kernel_rfl) (by decide) (by decide) (by omega) g2 a6 a1 a4 g1 a5 rfl rfl rfl rfl
 ·obtain⟨b',M1,e1,e2,e3,e4,e5⟩:=bC hM ⟨l1.map i64++l2.map i64,3,1,0,true⟩
  refine⟨true,aC b' 0 (l1.length+l2.length) (l1.length+l2.length),M1,?_,hE.trans e4,e5,⟨b',l1.length+l2.length,by rw[a0],.inl a0.symm,by have:=hE.next;omega,by rw[List.map_append];exact e3⟩,b1,a2,by rw[<-e2];rfl⟩
  rw[<-e1,<-e2]
  exact Ht (by omega) (by kernel_rfl) (by kernel_rfl) (w:=1) (y:=8) (by kernel_rfl) (by decide) (by decide) (by omega) g2 a6 a1 a4 g1 a5 rfl rfl
theorem sQ.ints{l:List Int}{nx:Nat}{v:Value}{M:aB}(h:sQ l nx v M)(hl:l.length<=9223372036854775807):aH l v (hid nx M):=by
 obtain⟨b,c,rfl,_,h3,h4⟩:=h
 exact aJ.of_blk' (jJ h3 h4) rfl (xJ l).symm (fun _ _=>rfl) hl
open Tryz
abbrev Q20:=FC (gN (lX pJ pI) fun x=>GX x.1/\0<=x.2/\ ∃l,Un x.1.arcs x.2.toNat l/\l.length<=1000) sQ (fun x=>Rl x.1.arcs x.2)
theorem rK20:Tryz.f20.results= #[.tmp 4]:=by kernel_rfl
theorem w20e(n:Nat)(ea:Option Addr)(ec rb ro rc:Nat)(ab ao ac ub uc db dc:Nat)(es:List E4)(rank:List Int)(arcs:List A7)(up down:List (List Int))(i:Nat)(y:A7){M:aB}(hM:aA M)(pes:aS es (.slice ea es.length ec) M)(prk:aH rank (aC rb ro n rc) M)(par:dJ arcs (aC ab ao arcs.length ac) M)(pup:aW up (aC ub 0 n uc) M)(pdn:aW down (aC db 0 n dc) M)(hg:GX ⟨n,es,rank,arcs,up,down⟩)(hab:ab<M.next)(hi:i<arcs.length)(c2:(decide (y.e>=(0:Int)))=true)(b3:bA prog 42 ⟨ab,ao+((i:Int):Int).toNat*7,none⟩ M=some (.agg ⟨[i64 y.f,i64 y.t,i64 y.m,i64 y.c,i64 y.e,i64 y.a,i64 y.b]⟩)): ∃v_ M',Ev prog [] 20 [.agg ⟨[i64 (n:Int),.slice ea es.length ec,aC rb ro n rc,aC ab ao arcs.length ac,aC ub 0 n uc,aC db 0 n dc]⟩,i64 i] M v_ M'/\Ext M M'/\aA M'/\sQ [y.e] M.next v_ M':=by
 obtain⟨b1,M2,c3,c4,g5,E6,c7⟩:=bC hM ⟨[i64 (n:Int),.slice ea es.length ec,aC rb ro n rc,aC ab ao arcs.length ac,aC ub 0 n uc,aC db 0 n dc],32,6,0,true⟩
 have X9:=(Ext.refl M).trans E6
 obtain⟨a6,a3,a0,a7,c5,b8,a9⟩:=bC c7 ⟨[i64 0,i64 0,i64 0,i64 0,i64 0,i64 0,i64 0],42,7,0,true⟩
 have b4:=lQ a0 X9
 have c0:=X9.trans b8
 obtain⟨a4,d0,b7,c8,b6,b0,c9⟩:=aZ (o:=0) (v:=(.agg ⟨[i64 y.f,i64 y.t,i64 y.m,i64 y.c,i64 y.e,i64 y.a,i64 y.b]⟩)) (new:= [i64 y.f,i64 y.t,i64 y.m,i64 y.c,i64 y.e,i64 y.a,i64 y.b]) c0 b4 a9 kG c5 rfl rfl (Nat.zero_le _) (xAd rfl) rfl
 obtain⟨a2,a5,a1,a8,c6,b9,b2⟩:=bC b0 ⟨[i64 y.e],3,1,0,true⟩
 have b5:=lQ a1 b6
 have c1:=b6.trans b9
 exact⟨aC a2 0 1 2,a5,Ev.told_tmp (tb:=[]) (n:=100) (F:=[bJ 1 (pt b1 0) M2,aR 7 (aC ab ao arcs.length ac),aQ 11,aR 13 (.agg ⟨[i64 y.f,i64 y.t,i64 y.m,i64 y.c,i64 y.e,i64 y.a,i64 y.b]⟩),bJ 15 (pt a6 0) a3,jE 17 a4,aR 21 (i64 y.e),aQ 24,aR 28 (i64 y.e),bJ 30 (aC a2 0 1 2) a5]) aG aF Tryz.func20 Ui (by kernel_rfl) rK20 (aI prog) (fun _ _=>rfl) (by kernel_rfl) (hq (.eq (eI prog 32 (.agg ⟨[i64 (n:Int),.slice ea es.length ec,aC rb ro n rc,aC ab ao arcs.length ac,aC ub 0 n uc,aC db 0 n dc]⟩) M) (1,.val (pt b1 0),M2)) (bN (by rw[<-c3,<-c4];kernel_rfl) xAc) (hk (lO 3 iU g5 rfl) (hk (qI (i:Int) arcs.length (by omega) (by omega)) (hk (lD (aN X9 b3)) (hq (.eq (cM prog 42 M2) (1,.val (pt a6 0),a3)) (bN (by rw[<-a0,<-a7];kernel_rfl) xAc) (hq (qS 42 a6 0 (.agg ⟨[i64 y.f,i64 y.t,i64 y.m,i64 y.c,i64 y.e,i64 y.a,i64 y.b]⟩) a3 a4) (dB d0) (hk (lO 4 bQ b7 rfl) (hk (bT c2) (hk (lO 4 bQ b7 rfl) (hq (.eq (bH prog 22 1 [(0,(i64 y.e))] a4) (1,.val (aC a2 0 1 2),a5)) (bN (by rw[<-a1,<-a8];kernel_rfl) xAc) hn)))))))))),c1,b2,⟨a2,2,rfl,.inr rfl,b5,c6⟩⟩
theorem w20s(n:Nat)(ea:Option Addr)(ec rb ro rc:Nat)(ab ao ac ub uc db dc:Nat)(es:List E4)(rank:List Int)(arcs:List A7)(up down:List (List Int))(i:Nat)(y:A7)(j k:Nat)(l1 l2:List Int){M:aB}(hM:aA M)(f3:aS es (.slice ea es.length ec) M)(f4:aH rank (aC rb ro n rc) M)(f1:dJ arcs (aC ab ao arcs.length ac) M)(f6:aW up (aC ub 0 n uc) M)(f2:aW down (aC db 0 n dc) M)(hg:GX ⟨n,es,rank,arcs,up,down⟩)(hab:ab<M.next)(hi:i<arcs.length)(hj:j<i)(hk_:k<i)(e9:Un arcs j l1)(f0:Un arcs k l2)(h5:Un arcs (j:Int).toNat l1)(h6:Un arcs (k:Int).toNat l2)(hll:l1.length+l2.length<=1000)(ih: ∀z:Int,z<(i:Int)-> ∀{lv:List Value} {M:aB},aA M->(gN (lX pJ pI) fun x:IX×Int=>GX x.1/\0<=x.2/\ ∃l,Un x.1.arcs x.2.toNat l/\l.length<=1000) ((⟨n,es,rank,arcs,up,down⟩:IX),z) lv M-> ∃v M',kR prog [] 20 Q20 lv M v M')(g7:(decide (y.e>=(0:Int)))=false)(d4:bA prog 42 ⟨ab,ao+((i:Int):Int).toNat*7,none⟩ M=some (.agg ⟨[i64 y.f,i64 y.t,i64 y.m,i64 y.c,i64 y.e,i64 (j:Int),i64 (k:Int)]⟩)): ∃v_ M',Ev prog [] 20 [.agg ⟨[i64 (n:Int),.slice ea es.length ec,aC rb ro n rc,aC ab ao arcs.length ac,aC ub 0 n uc,aC db 0 n dc]⟩,i64 i] M v_ M'/\Ext M M'/\aA M'/\sQ (l1++l2) M.next v_ M':=by
 obtain⟨b1,M2,g8,g9,g5,E6,h4⟩:=bC hM ⟨[i64 (n:Int),.slice ea es.length ec,aC rb ro n rc,aC ab ao arcs.length ac,aC ub 0 n uc,aC db 0 n dc],32,6,0,true⟩
 have X9:=(Ext.refl M).trans E6
 obtain⟨a7,c3,b5,c4,h0,e0,c6⟩:=bC h4 ⟨[i64 0,i64 0,i64 0,i64 0,i64 0,i64 0,i64 0],42,7,0,true⟩
 have d9:M.next<=a7:=(lQ b5 X9:)
 have b4:=fJ g5 b5
 have h1:=e0.old g5
 have g4:=X9.trans e0
 obtain⟨a0,i2,c5,d5,b2,c7,h9⟩:=aZ (o:=0) (v:=(.agg ⟨[i64 y.f,i64 y.t,i64 y.m,i64 y.c,i64 y.e,i64 (j:Int),i64 (k:Int)]⟩)) (new:= [i64 y.f,i64 y.t,i64 y.m,i64 y.c,i64 y.e,i64 (j:Int),i64 (k:Int)]) g4 d9 c6 kG h0 rfl rfl (Nat.zero_le _) (xAd rfl) rfl
 have e6:=(d5 _ b4).trans h1
 obtain⟨b9,a3⟩:=Jk a0 a0 []
 have b3:=Nk a3 b2
 have d6:b9.log= []:=by rw[a3]
 have b6:b9.next=a0.next:=by rw[a3]
 have c8:=Jl a3 c7
 have a9:=aB.lt_of_get e6
 have e7:=cF a3 e6
 have a5:=aB.lt_of_get c5
 have e8:=cF a3 c5
 obtain⟨w36,j2,a1,i0,h7,e4,c2,c9,f8⟩:=aL (x:=((⟨n,es,rank,arcs,up,down⟩:IX),(j:Int))) c8 (fun hM h=>ih (j:Int) (by omega) hM h) (⟨⟨_,_,rfl,⟨_,_,_,_,_,rfl,AP.Ext (R:=aS) (AP.log (R:=aS) f3) b3,AP.Ext (R:=aH) (AP.log (R:=aH) f4) b3,AP.Ext (R:=dJ) (AP.log (R:=dJ) f1) b3,AP.Ext (R:=aW) (AP.log (R:=aW) f6) b3,AP.Ext (R:=aW) (AP.log (R:=aW) f2) b3⟩,rfl⟩,hg,Int.natCast_nonneg j,l1,h5,by omega⟩)
 have h2:=c2.old e7
 have h3:=c2.old e8
 have g1:sQ l1 b9.next w36 a1:=by rw[<-uR e9];exact f8
 have d7:a1.log= []:=by rw[<-e4];exact d6
 have a6:=b3.trans c2
 obtain⟨c1,j3,b0,i1,h8,e5,e1,d0,g0⟩:=aL (x:=((⟨n,es,rank,arcs,up,down⟩:IX),(k:Int))) c9 (fun hM h=>ih (k:Int) (by omega) hM h) (⟨⟨_,_,rfl,⟨_,_,_,_,_,rfl,AP.Ext (R:=aS) (AP.log (R:=aS) f3) a6,AP.Ext (R:=aH) (AP.log (R:=aH) f4) a6,AP.Ext (R:=dJ) (AP.log (R:=dJ) f1) a6,AP.Ext (R:=aW) (AP.log (R:=aW) f6) a6,AP.Ext (R:=aW) (AP.log (R:=aW) f2) a6⟩,rfl⟩,hg,Int.natCast_nonneg k,l2,h6,by omega⟩)
 have g2:sQ l2 a1.next c1 b0:=by rw[<-uR f0];exact g0
 have d8:b0.log= []:=by rw[<-e5];exact d7
 have e2:=a6.trans e1
 have g3:=g1.keep (Nat.le_refl _) e1
 obtain⟨b7,c0,a4,i3,e3,d1,f7,j4,j5,d3⟩:=Uf e2 d0 g3 g2 (b3).next e9.ne f0.ne (by omega)
 obtain⟨b8,a8⟩: ∃m:aB,m=(aB.mk a4.blks a4.next a4.hide (a4.log++a0.log)):=⟨_,rfl⟩
 have g6:Ext M b8:=by rw[a8];exact Ext.join (b2) (e3)
 have d2:aA b8:=by rw[a8];exact d1
 have a2:oT prog [] 100 Tryz.f20 q20 [.agg ⟨[i64 (n:Int),.slice ea es.length ec,aC rb ro n rc,aC ab ao arcs.length ac,aC ub 0 n uc,aC db 0 n dc]⟩,i64 i] M [bJ 1 (pt b1 0) M2,aR 7 (aC ab ao arcs.length ac),aQ 11,aR 13 (.agg ⟨[i64 y.f,i64 y.t,i64 y.m,i64 y.c,i64 y.e,i64 (j:Int),i64 (k:Int)]⟩),bJ 15 (pt a7 0) c3,jE 17 a0,aR 21 (i64 y.e),aO 24,aR 26 (.agg ⟨[i64 (n:Int),.slice ea es.length ec,aC rb ro n rc,aC ab ao arcs.length ac,aC ub 0 n uc,aC db 0 n dc]⟩),aR 30 (i64 (j:Int)),bJ 32 w36 a1,aR 34 (.agg ⟨[i64 (n:Int),.slice ea es.length ec,aC rb ro n rc,aC ab ao arcs.length ac,aC ub 0 n uc,aC db 0 n dc]⟩),aR 38 (i64 (k:Int)),bJ 40 c1 b0,.at 42 ((bif b7 then 1 else 2),.val c0,a4)] 4=some (.ret,some c0,aB.mk a4.blks a4.next a0.hide (a4.log++a0.log),[.eq (eI prog 32 (.agg ⟨[i64 (n:Int),.slice ea es.length ec,aC rb ro n rc,aC ab ao arcs.length ac,aC ub 0 n uc,aC db 0 n dc]⟩) M) (1,.val (pt b1 0),M2),qL 29 b1 3 M2 (aC ab ao arcs.length ac),.q (.inb (i:Int) arcs.length) (eD true),qL 42 ab (ao+((i:Int):Int).toNat*7) M2 (.agg ⟨[i64 y.f,i64 y.t,i64 y.m,i64 y.c,i64 y.e,i64 (j:Int),i64 (k:Int)]⟩),.eq (cM prog 42 M2) (1,.val (pt a7 0),c3),qS 42 a7 0 (.agg ⟨[i64 y.f,i64 y.t,i64 y.m,i64 y.c,i64 y.e,i64 (j:Int),i64 (k:Int)]⟩) c3 a0,qL 3 a7 4 a0 (i64 y.e),qF (decide (y.e>=(0:Int))),qL 32 b1 0 (aB.mk a0.blks a0.next a0.hide []) (.agg ⟨[i64 (n:Int),.slice ea es.length ec,aC rb ro n rc,aC ab ao arcs.length ac,aC ub 0 n uc,aC db 0 n dc]⟩),qL 3 a7 5 (aB.mk a0.blks a0.next (aV 2 [⟨1,0,a0.next,a0.next⟩,⟨0,1,a0.next,a0.next⟩]++a0.hide) []) (i64 (j:Int)),qC 20 [.agg ⟨[i64 (n:Int),.slice ea es.length ec,aC rb ro n rc,aC ab ao arcs.length ac,aC ub 0 n uc,aC db 0 n dc]⟩,i64 (j:Int)] (aB.mk a0.blks a0.next a0.hide []) w36 a1,qL 32 b1 0 (aB.mk a1.blks a1.next (aV 0 [⟨3,1,a0.next,a1.next⟩,⟨2,1,a0.next,a0.next⟩,⟨1,0,a0.next,a0.next⟩,⟨0,1,a0.next,a0.next⟩]++a0.hide) a1.log) (.agg ⟨[i64 (n:Int),.slice ea es.length ec,aC rb ro n rc,aC ab ao arcs.length ac,aC ub 0 n uc,aC db 0 n dc]⟩),qT (Nat.blt b1 a0.next),qL 3 a7 6 (aB.mk a1.blks a1.next (aV 32 [⟨5,0,a1.next,a1.next⟩,⟨3,1,a0.next,a1.next⟩,⟨2,1,a0.next,a0.next⟩,⟨1,0,a0.next,a0.next⟩,⟨0,1,a0.next,a0.next⟩]++a0.hide) a1.log) (i64 (k:Int)),qT (Nat.blt a7 a0.next),qC 20 [.agg ⟨[i64 (n:Int),.slice ea es.length ec,aC rb ro n rc,aC ab ao arcs.length ac,aC ub 0 n uc,aC db 0 n dc]⟩,i64 (k:Int)] (aB.mk a1.blks a1.next a0.hide a1.log) c1 b0,.q (.append [22,22] w36 c1 (aB.mk b0.blks b0.next a0.hide b0.log)) ((bif b7 then 1 else 2),.val c0,a4),qT (cZ [a7,b1] a4.log)]):=by cases b7<;>kernel_rfl
 have i4:aB.mk a0.blks a0.next a0.hide []=b9:=a3.symm
 have i5:=Yj (k:=2) (l:=[⟨1,0,a0.next,a0.next⟩,⟨0,1,a0.next,a0.next⟩]) a3 (by simp [aV,Nat.beq_refl,b6,Lm,Ln])
 have i6:=pT ((b2).hide.trans (a6).hide.symm)
 have i7:=Gs 0 [⟨3,1,a0.next,a1.next⟩,⟨2,1,a0.next,a0.next⟩,⟨1,0,a0.next,a0.next⟩,⟨0,1,a0.next,a0.next⟩] ((b2).hide.trans (a6).hide.symm)
 have i8:=Gs 32 [⟨5,0,a1.next,a1.next⟩,⟨3,1,a0.next,a1.next⟩,⟨2,1,a0.next,a0.next⟩,⟨1,0,a0.next,a0.next⟩,⟨0,1,a0.next,a0.next⟩] ((b2).hide.trans (a6).hide.symm)
 have i9:=pT ((b2).hide.trans (e2).hide.symm)
 have j0:=Dr (L:=(a4.log++a0.log)) ((b2).hide.trans (e3).hide.symm)
 have j1:(aB.mk a4.blks a4.next a4.hide (a4.log++a0.log))=b8:=a8.symm
 try rw[i4] at a2
 try rw[i5] at a2
 try rw[i6] at a2
 try rw[i7] at a2
 try rw[i8] at a2
 try rw[i9] at a2
 try rw[j0] at a2
 try rw[j1] at a2
 exact⟨c0,b8,Ev.told_tmp aG aF Tryz.func20 Ui (by kernel_rfl) rK20 (fun B=>lV (gH 20 Q20 (gL _))) (fun _ _=>rfl) a2 (hk (bN (by rw[<-g8,<-g9];kernel_rfl) xAc) (hk (lC iU g5 rfl) (hk (dE (by omega) (by omega)) (hk (eO (aN X9 d4)) (hk (bN (by rw[<-b5,<-c4];kernel_rfl) xAc) (hk (dB i2) (hk (lC bQ c5 rfl) (hk (bF g7) (hk (lA ⟨uU,rR⟩ e7 rfl) (hk (lC bQ e8 rfl) (hk (aK rfl i0 h7 e4) (hk (lA ⟨uU,rR⟩ (bV.2 ⟨dC (by simp;omega),h2⟩) rfl) (hk (lG a9) (hk (lC bQ (bV.2 ⟨dC (by simp;omega),h3⟩) rfl) (hk (lG a5) (hk (aK rfl i1 h8 e5) (hk (kB i3 (by cases b7<;>simp)) (hk (eA (by rw[d3,d8];cases b7<;>simp<;>omega)) hn)))))))))))))))))),g6,d2,AQ.ext (R:=sQ) (fun id b g=>by rw[a8];exact g) f7⟩
theorem Ze(N:Nat): ∀{x:IX×Int},x.2<(N:Int)-> ∀{lv:List Value} {M:aB},aA M->(gN (lX pJ pI) fun x:IX×Int=>GX x.1/\0<=x.2/\ ∃l,Un x.1.arcs x.2.toNat l/\l.length<=1000) x lv M-> ∃v M',kR prog [] 20 Q20 lv M v M':=by
 induction N with
 |zero=>intro x hx lv M hM h;exact absurd h.2.2.1 (by omega)
 |succ N IH=>
  intro x hx lv M hM h
  refine FC.con h ?_
  obtain⟨⟨g0,g1,rfl,k0,k1⟩,hg,hi,l,hu,hl⟩:=h
  obtain⟨ea,ec,rb,ro,rc,aa,ac,ub,uc,db,dc,rfl,h1,h2,h3,h4,h5⟩:=qD k0 hg
  obtain⟨⟨n,es,rank,arcs,up,down⟩,z⟩:=x
  obtain rfl:=k1
  obtain⟨i,rfl⟩:=Int.eq_ofNat_of_zero_le hi
  have a0:Un arcs i l:=hu
  have he:Rl arcs (i:Int)=l:=uR a0
  have a2:=a0.lt
  simp only at h1 h2 h3 h4 h5 hx
  obtain⟨ab,ao,rfl,_⟩:=bU h3 (by omega)
  have a1:=Go.Am.jL h3 (by omega)
  rcases a0.open with⟨y,p1,p2,p3⟩|⟨j,k,y,l1,l2,p1,p2,p3,p4,p5,p6,p7,p8,p9⟩
  ·have hr:=kP (P:=prog) (ty:=42) h3 p1 sN kG
   obtain⟨v,M',q1,q2,_,q3⟩:=w20e n ea ec rb ro rc ab ao ac ub uc db dc es rank arcs up down i y hM h1 h2 h3 h4 h5 hg a1 a2 (xAb p2) (by rw[Int.toNat_natCast];exact hr)
   refine⟨v,M',q1,q2,?_⟩
   simp only [he,p3]
   exact q3
  ·have hr:=kP (P:=prog) (ty:=42) h3 p1 sN kG
   rw[p7,List.length_append] at hl
   obtain⟨v,M',q1,q2,_,q3⟩:=w20s n ea ec rb ro rc ab ao ac ub uc db dc es rank arcs up down i y j k l1 l2 hM h1 h2 h3 h4 h5 hg a1 a2 p5 p6 p8 p9 p8 p9 hl (fun z hz lv M hM h=>IH (x:=(⟨n,es,rank,arcs,up,down⟩,z)) (by simp only;omega) hM h) (xAa (by omega)) (by rw[Int.toNat_natCast,<-p3,<-p4];exact hr)
   refine⟨v,M',q1,q2,?_⟩
   simp only [he,p7]
   exact q3
theorem con20{x:IX×Int}{lv:List Value}{M:aB}(hM:aA M)(h:(gN (lX pJ pI) fun x:IX×Int=>GX x.1/\0<=x.2/\ ∃l,Un x.1.arcs x.2.toNat l/\l.length<=1000) x lv M): ∃v M',kR prog [] 20 Q20 lv M v M':=
 Ze (x.2.toNat+1) (by have:=h.2.2.1;omega) hM h
open Tryz
theorem rha(q x ab ao L ac kb ko m kc i k:Nat)(x0 x1 x2 x4 x5:Value)(y:A7){M:aB}{M0:aB}(X0:Ext M0 M)(hkb:kb<M0.next)(hab:ab<M0.next)(gx:M.get x=some ⟨[x0,x1,x2,aC ab ao L ac,x4,x5],32,6,0,true⟩)(hi:i<L)(a2:(decide ((k:Int)<(m:Int)))=true)(a0:bA prog 3 ⟨kb,ko+((k:Int):Int).toNat*1,none⟩ M0=some (i64 y.m))(a1:bA prog 3 ⟨ab,ao+((i:Int):Int).toNat*7+2,none⟩ M0=some (i64 y.m)): ∃T1,Rd prog [] (q5.loopAt 2) Tryz.f5.ntmps (fr [(7,(pt q 0)),(8,(pt x 0)),(9,(i64 (i:Int))),(12,(aC kb ko m kc)),(14,(i64 (k:Int)))]) M .normal T1 M/\ [7,8,9,12,14].map T1.get= [some (pt q 0),some (pt x 0),some (i64 (i:Int)),some (aC kb ko m kc),some (i64 (IntKind.wrap .i64 ((k:Int)+(1:Int))))]:=by
 exact Rd.told (tb:=[]) (n:=200) (F:=[aQ 8,aQ 14,aR 16 (i64 y.m),aR 20 (aC ab ao L ac),aQ 24,aR 28 (i64 y.m),aO 31]) aG aF (aI prog) (fun _ _=>rfl) (by kernel_rfl) (hk (bT a2) (hk (qI (k:Int) m (by omega) (by simp at a2;omega)) (hk (lD (aN X0 a0)) (hk (lO 3 iU gx rfl) (hk (qI (i:Int) L (by omega) (by omega)) (hk (lD (aN X0 a1)) (hk (bF (x:=!(y.m==y.m)) (dA _)) hn)))))))
theorem rhax(q x m kc i k:Nat)(ka:Option Addr){M:aB}(a1:ka.isNone=true->m=0/\kc=0)(a0:(decide ((k:Int)<(m:Int)))=false): ∃T1,Rd prog [] (q5.loopAt 2) Tryz.f5.ntmps (fr [(7,(pt q 0)),(8,(pt x 0)),(9,(i64 (i:Int))),(12,(.slice ka m kc)),(14,(i64 (k:Int)))]) M (.exit 2) T1 M/\ [7,8,9].map T1.get= [some (pt q 0),some (pt x 0),some (i64 (i:Int))]:=by
 exact Rd.told (tb:=[]) (n:=60) (F:=[aQ 5,aO 8]) aG aF (aI prog) (fun _ _=>rfl) (by kernel_rfl) (hk (lN a1) (hk (bF a0) hn))
theorem aAa{q x ac kc i:Nat}{aa ka:Option Addr}{x0 x1 x2 x4 x5:Value}{arcs:List A7}{W:List Int}{y:A7}{M:aB}(a0:dJ arcs (.slice aa arcs.length ac) M)(pw:aH W (.slice ka W.length kc) M)(hM:aA M)(gx:M.get x=some ⟨[x0,x1,x2,.slice aa arcs.length ac,x4,x5],32,6,0,true⟩)(hy:arcs[i]?=some y)(hW: ∀z∈W,z=y.m)(hWl:W.length<=1000):
  ∃M',bL prog [] (q5.loopAt 2) Tryz.f5.ntmps (fr [(7,pt q 0),(8,pt x 0),(9,i64 i),(12,.slice ka W.length kc),(14,i64 ((0:Nat):Int))]) M (.exit 2) (fr [(7,pt q 0),(8,pt x 0),(9,i64 i)]) M'/\Ext M M'/\aA M':=by
 have hi:=(xAg.1 hy).1
 obtain⟨ab,ao,rfl,_⟩:=bU a0 (by omega)
 obtain⟨_,M',k1,k2,k3⟩:=bL.for (P:=prog) (GL:= []) (b:=q5.loopAt 2) (nt:=Tryz.f5.ntmps) (id:=2) (σ:=Unit) (n:=W.length) (Inv:=fun k _ M1=>Ext M M1/\aA M1)
  (F:=fun k _=> [(7,pt q 0),(8,pt x 0),(9,i64 i),(12,.slice ka W.length kc),(14,i64 ((k:Nat):Int))]) (O:=fun _=> [(7,pt q 0),(8,pt x 0),(9,i64 i)])
  (by
   rintro k _ M1 hk ⟨X1,a1⟩
   obtain⟨kb,ko,rfl,_⟩:=bU pw (by omega)
   have ht:W[k]?=some y.m:=by rw[xAe hk,hW _ (List.getElem_mem hk)]
   have l1:=iX (P:=prog) (ty:=3) pw ht rfl bQ
   have l2:bA prog 3 ⟨ab,ao+i*7+2,none⟩ M=some (i64 y.m):=mF (P:=prog) (ty:=3) a0 hy (j:=2) rfl bQ
   obtain⟨T1,q1,q2⟩:=rha q x ab ao arcs.length ac kb ko W.length kc i k x0 x1 x2 x4 x5 y X1 (Go.Am.jL pw (by omega)) (Go.Am.jL a0 (by omega)) (X1.old gx) hi (xAb (by omega)) (by rw[Int.toNat_natCast];exact l1) (by rw[Int.toNat_natCast];exact l2)
   rw[bD (by omega)] at q2
   exact⟨(),T1,M1,q1,q2,X1,a1⟩)
  (by
   rintro _ M1 ⟨X1,a1⟩
   exact rhax q x W.length kc i W.length ka (M:=M1) pw.ln (xAa (by omega)))
  W.length 0 (by omega) (s:=()) (M:=M) ⟨Ext.refl M,hM⟩
 exact⟨M',k1,k2,k3⟩
theorem Tv{es:List E4}{m w:Int}: ∀{l:List Int} {u:Int},mY es m u l w-> ∀i∈l,Ld es i=m
 | [],_,_,i,hi=>by cases hi
 |a::l,u,⟨_,e,he,_,hm,h⟩,i,hi=>by
  rcases List.mem_cons.1 hi with rfl|hi
  ·unfold Ld;rw[he];exact hm
  ·exact Tv h i hi
theorem rs0(q x qc ec rb ro rc ab ao ac ub uc db dc n i:Nat)(qa ea:Option Addr)(es:List E4)(rank:List Int)(arcs:List A7)(up down:List (List Int))(l0:List Int)(y:A7){M M0:aB}(hM:aA M)(X0:Ext M0 M)(pq:aS es (.slice qa es.length qc) M0)(e3:aS es (.slice ea es.length ec) M0)(e4:aH rank (aC rb ro n rc) M0)(d5:dJ arcs (aC ab ao arcs.length ac) M0)(e5:aW up (aC ub 0 n uc) M0)(e2:aW down (aC db 0 n dc) M0)(hg:GX ⟨n,es,rank,arcs,up,down⟩)(hab:ab<M0.next)(gq:M.get q=some ⟨[i64 n,.slice qa es.length qc],26,2,0,true⟩)(gx:M.get x=some ⟨[i64 (n:Int),.slice ea es.length ec,aC rb ro n rc,aC ab ao arcs.length ac,aC ub 0 n uc,aC db 0 n dc],32,6,0,true⟩)(h6:iQ n es)(hy:arcs[i]?=some y)(hi:i<arcs.length)(hu:Un arcs i l0)(e0:Un arcs (i:Int).toNat l0)(hll:l0.length<=n+1)(hl1:1<=l0.length)(hn24:n<=24)(e1:mY es y.m y.f l0 y.t)(h7:l0≠ [])(a6:qV es l0=y.c)(g3:(decide ((i:Int)<(arcs.length:Int)))=true)(d1:bA prog 3 ⟨ab,ao+((i:Int):Int).toNat*7,none⟩ M0=some (i64 y.f))(d2:bA prog 3 ⟨ab,ao+((i:Int):Int).toNat*7+1,none⟩ M0=some (i64 y.t))(d3:bA prog 3 ⟨ab,ao+((i:Int):Int).toNat*7+3,none⟩ M0=some (i64 y.c)): ∃T1 M',Rd prog [] (q5.loopAt 0) Tryz.f5.ntmps (fr [(7,(pt q 0)),(8,(pt x 0)),(9,(i64 (i:Int)))]) M .normal T1 M'/\ [7,8,9].map T1.get= [some (pt q 0),some (pt x 0),some (i64 (IntKind.wrap .i64 ((i:Int)+(1:Int))))]/\Ext M0 M'/\aA M'/\M'.get q=some ⟨[i64 (n:Int),.slice qa es.length qc],26,2,0,true⟩/\M'.get x=some ⟨[i64 (n:Int),.slice ea es.length ec,aC rb ro n rc,aC ab ao arcs.length ac,aC ub 0 n uc,aC db 0 n dc],32,6,0,true⟩:=by
 obtain⟨w4,N5,M6,p7,l8,e9,b1,c6,e8⟩:=aL (x:=((⟨n,es,rank,arcs,up,down⟩:IX),(i:Int))) hM con17 (⟨⟨_,_,rfl,⟨_,_,_,_,_,rfl,AP.Ext (R:=aS) e3 X0,AP.Ext (R:=aH) e4 X0,AP.Ext (R:=dJ) d5 X0,AP.Ext (R:=aW) e5 X0,AP.Ext (R:=aW) e2 X0⟩,rfl⟩,hg,Int.natCast_nonneg i,l0,e0,by omega⟩)
 have d8:=b1.old gq
 have c3:=b1.old gx
 have G3:aH l0 w4 (cI [(0,M.next)] M6):=by rw[<-uR hu];exact kV e8
 obtain⟨a1,c2,g7⟩:=aJ.form G3
 subst g7
 have d4:=aJ.ln G3
 have b0:=X0.trans b1
 obtain⟨Yp,i4,a0,i1,h8,g4,a7,c7,f0⟩:=aL (x:=((n,es),y.f,y.t,l0)) c6 con18 (⟨⟨_,_,_,_,rfl,⟨_,rfl,AP.Ext (R:=aS) pq b0⟩,rfl,rfl,eF (R:=aH) G3⟩,⟨h6,(show l0.length<=100 by omega)⟩,h7,y.m,e1⟩)
 have f1:=fT (R:=aH) G3 a7
 have g8:=a7.old d8
 have c4:=a7.old c3
 obtain⟨g0,a3,a9⟩:pWk (qV es l0,(l0.map (Ld es))) M6.next Yp a0:=f0
 replace a9:aH (l0.map (Ld es)) g0 (cI [(0,M6.next)] a0):=kV a9
 simp only at a3
 rw[a6] at a3
 obtain⟨b5,b7,b9⟩:=aJ.form a9
 subst b9
 subst a3
 have a2:=b0.trans a7
 obtain⟨e6,i5,a5,i2,h9,g5,a4,c8,f2⟩:=aL (x:=((⟨n,es,rank,arcs,up,down⟩:IX),(i:Int))) c7 con20 (⟨⟨_,_,rfl,⟨_,_,_,_,_,rfl,AP.Ext (R:=aS) e3 a2,AP.Ext (R:=aH) e4 a2,AP.Ext (R:=dJ) d5 a2,AP.Ext (R:=aW) e5 a2,AP.Ext (R:=aW) e2 a2⟩,rfl⟩,hg,Int.natCast_nonneg i,l0,e0,by omega⟩)
 have f3:=fT (R:=aH) f1 a4
 have f4:=fT (R:=aH) a9 a4
 have g9:=a4.old g8
 have h0:=a4.old c4
 have d6:sQ l0 a0.next e6 a5:=by rw[<-uR hu];exact f2
 have f8:aH l0 e6 (cI [(0,a0.next)] a5):=kV (sQ.ints d6 (by omega))
 obtain⟨b6,b8,c0,_⟩:=d6
 subst c0
 have g1:=a2.trans a4
 obtain⟨e7,i6,b3,i3,i0,g6,a8,c9,f6⟩:=aL (x:=(l0,l0)) c8 con19 (⟨_,_,rfl,eF (R:=aH) f3,eF (R:=aH) f8⟩)
 have f7:=fT (R:=aH) f4 a8
 have h3:=a8.old g9
 have d9:=a8.old h0
 have c1:e7=(.bool true):=by have h:e7= .bool (decide (l0=l0)):=f6;rw[h];simp
 subst c1
 have d7:=g1.trans a8
 obtain⟨b4,c5,b2,d0⟩:=aAa (AP.Ext (R:=dJ) d5 d7) (eF (R:=aH) f7) c9 d9 hy (fun z hz=>by obtain⟨a,ha,rfl⟩:=List.mem_map.1 hz;exact Tv e1 a ha) (by rw[List.length_map];omega)
 have h4:=b2.old h3
 have h5:=b2.old d9
 have g2:=d7.trans b2
 obtain⟨T1,h1,h2⟩:=Rd.told (tb:=[2]) (n:=200) (F:=[aR 5 (aC ab ao arcs.length ac),aQ 10,aR 12 (.agg ⟨[i64 (n:Int),.slice ea es.length ec,aC rb ro n rc,aC ab ao arcs.length ac,aC ub 0 n uc,aC db 0 n dc]⟩),bJ 16 (.slice a1 l0.length c2) M6,aR 20 (.agg ⟨[i64 (n:Int),.slice qa es.length qc]⟩),aR 24 (aC ab ao arcs.length ac),aQ 28,aR 32 (i64 y.f),aR 36 (aC ab ao arcs.length ac),aQ 40,aR 44 (i64 y.t),bJ 48 (.tuple ⟨[i64 y.c,.slice b5 (l0.map (Ld es)).length b7,.bool true]⟩) a0,aR 74 (aC ab ao arcs.length ac),aQ 78,aR 82 (i64 y.c),aO 89,aO 91,aQ 92,aO 93,aO 96,aO 99,aO 101,aR 102 (.agg ⟨[i64 (n:Int),.slice ea es.length ec,aC rb ro n rc,aC ab ao arcs.length ac,aC ub 0 n uc,aC db 0 n dc]⟩),aO 103,aO 105,bJ 106 (aC b6 0 l0.length b8) a5,aO 107,bJ 108 (.bool true) b3,aO 109,aO 112,.blk 116 [7,8,9,12,14] .normal (fr [(7,(pt q 0)),(8,(pt x 0)),(9,(i64 (i:Int)))]) b4]) aG aF (fun B=>wR (gH 17 Q17 (gH 18 Q18 (gH 19 Q19 (gH 20 Q20 (gL _))))) 2 c5) (fun _ h=>bZ h) (by kernel_rfl) (hk (lO 3 iU gx rfl) (hk (bT g3) (hq (qL 32 x 0 M (.agg ⟨[i64 (n:Int),.slice ea es.length ec,aC rb ro n rc,aC ab ao arcs.length ac,aC ub 0 n uc,aC db 0 n dc]⟩)) (lA ⟨uU,rR⟩ gx rfl) (hq (qC 17 [.agg ⟨[i64 (n:Int),.slice ea es.length ec,aC rb ro n rc,aC ab ao arcs.length ac,aC ub 0 n uc,aC db 0 n dc]⟩,i64 (i:Int)] M (.slice a1 l0.length c2) M6) (aK rfl p7 l8 e9) (hq (qL 26 q 0 M6 (.agg ⟨[i64 (n:Int),.slice qa es.length qc]⟩)) (lA ⟨zB,uV⟩ d8 rfl) (hk (lO 3 iU c3 rfl) (hk (qI (i:Int) arcs.length (by omega) (by omega)) (hk (lD (aN b0 d1)) (hk (lO 3 iU c3 rfl) (hk (qI (i:Int) arcs.length (by omega) (by omega)) (hk (lD (aN b0 d2)) (hq (qC 18 [.agg ⟨[i64 (n:Int),.slice qa es.length qc]⟩,i64 y.f,i64 y.t,.slice a1 l0.length c2] M6 (.tuple ⟨[i64 y.c,.slice b5 (l0.map (Ld es)).length b7,.bool true]⟩) a0) (aK rfl i1 h8 g4) (hk (lO 3 iU c4 rfl) (hk (qI (i:Int) arcs.length (by omega) (by omega)) (hk (lD (aN a2 d3)) (hk (bF (x:=!(y.c==y.c)) (dA _)) (hk (bF (x:=!(y.c==y.c)) (dA _)) (hk (lN d4) (hk (bF (x:=!(y.c==y.c)) (dA _)) (hk (bF (x:=!(y.c==y.c)) (dA _)) (hk (bF (x:=decide ((l0.length:Int)<(1:Int))) (xAa (by omega))) (hk (bF (x:=decide ((l0.length:Int)<(1:Int))) (xAa (by omega))) (hq (qL 32 x 0 a0 (.agg ⟨[i64 (n:Int),.slice ea es.length ec,aC rb ro n rc,aC ab ao arcs.length ac,aC ub 0 n uc,aC db 0 n dc]⟩)) (lA ⟨uU,rR⟩ c4 rfl) (hk (bF (x:=decide ((l0.length:Int)<(1:Int))) (xAa (by omega))) (hk (bF (x:=decide ((l0.length:Int)<(1:Int))) (xAa (by omega))) (hq (qC 20 [.agg ⟨[i64 (n:Int),.slice ea es.length ec,aC rb ro n rc,aC ab ao arcs.length ac,aC ub 0 n uc,aC db 0 n dc]⟩,i64 (i:Int)] a0 (aC b6 0 l0.length b8) a5) (aK rfl i2 h9 g5) (hk (bF (x:=decide ((l0.length:Int)<(1:Int))) (xAa (by omega))) (hq (qC 19 [.slice a1 l0.length c2,aC b6 0 l0.length b8] a5 (.bool true) b3) (aK rfl i3 i0 g6) (hk (bF (x:=decide ((l0.length:Int)<(1:Int))) (xAa (by omega))) (hk (bF (x:=decide ((l0.length:Int)<(1:Int))) (xAa (by omega))) (hq (.blk 2 (.loop (q5.loopAt 2)) Tryz.f5.ntmps [7,8,9,12,14] [some (pt q 0),some (pt x 0),some (i64 (i:Int)),some (.slice b5 (l0.map (Ld es)).length b7),some (i64 0)] b3 .normal (fr [(7,(pt q 0)),(8,(pt x 0)),(9,(i64 (i:Int)))]) b4) (fB rfl) hn)))))))))))))))))))))))))))))))
 exact⟨T1,b4,h1,h2,g2,d0,h4,h5⟩
theorem rs0x(q x ec rb ro rc ac ub uc db dc n i:Nat)(ea aa:Option Addr)(es:List E4)(arcs:List A7){M:aB}(gx:M.get x=some ⟨[i64 (n:Int),.slice ea es.length ec,aC rb ro n rc,.slice aa arcs.length ac,aC ub 0 n uc,aC db 0 n dc],32,6,0,true⟩)(a1:dJ arcs (.slice aa arcs.length ac) M)(a0:(decide ((i:Int)<(arcs.length:Int)))=false): ∃T1,Rd prog [] (q5.loopAt 0) Tryz.f5.ntmps (fr [(7,(pt q 0)),(8,(pt x 0)),(9,(i64 (i:Int)))]) M (.exit 0) T1 M/\ [].map T1.get= []:=by
 exact Rd.told (tb:=[]) (n:=60) (F:=[aR 5 (.slice aa arcs.length ac),aQ 7,aO 10]) aG aF (aI prog) (fun _ _=>rfl) (by kernel_rfl) (hk (lO 3 iU gx rfl) (hk (lN a1.ln) (hk (bF a0) hn)))
open Tryz
theorem Zz{q x qc ec rb ro rc ac ub uc db dc n:Nat}{qa ea aa:Option Addr}{es:List E4}{rank:List Int}{arcs:List A7}{up down:List (List Int)}{M0 M:aB}(pq:aS es (.slice qa es.length qc) M0)(a8:aS es (.slice ea es.length ec) M0)(a9:aH rank (aC rb ro n rc) M0)(a0:dJ arcs (.slice aa arcs.length ac) M0)(b0:aW up (aC ub 0 n uc) M0)(a7:aW down (aC db 0 n dc) M0)(hg:GX ⟨n,es,rank,arcs,up,down⟩)(hM:aA M)(X0:Ext M0 M)(gq:M.get q=some ⟨[i64 n,.slice qa es.length qc],26,2,0,true⟩)(gx:M.get x=some ⟨[i64 (n:Int),.slice ea es.length ec,aC rb ro n rc,.slice aa arcs.length ac,aC ub 0 n uc,aC db 0 n dc],32,6,0,true⟩)(a4:iQ n es)(a1:n<=24)(a6: ∀(i:Nat) (x:A7),arcs[i]?=some x-> ∃G l,AF n es G arcs i x l):
  ∃M',bL prog [] (q5.loopAt 0) Tryz.f5.ntmps (fr [(7,pt q 0),(8,pt x 0),(9,i64 ((0:Nat):Int))]) M (.exit 0) (fr []) M'/\Ext M0 M'/\aA M':=by
 have hlen:=a0.len
 obtain⟨_,M',k1,k2,k3,_⟩:=bL.for (P:=prog) (GL:= []) (b:=q5.loopAt 0) (nt:=Tryz.f5.ntmps) (id:=0) (σ:=Unit) (n:=arcs.length) (Inv:=fun v _ M1=>Ext M0 M1/\aA M1/\M1.get q=some ⟨[i64 n,.slice qa es.length qc],26,2,0,true⟩/\M1.get x=some ⟨[i64 (n:Int),.slice ea es.length ec,aC rb ro n rc,.slice aa arcs.length ac,aC ub 0 n uc,aC db 0 n dc],32,6,0,true⟩)
  (F:=fun v _=> [(7,pt q 0),(8,pt x 0),(9,i64 ((v:Nat):Int))]) (O:=fun _=> [])
  (by
   rintro v _ M1 hv ⟨X1,a3,a5,a2⟩
   have hy:arcs[v]?=some arcs[v]:=xAe hv
   obtain⟨G,l,hF⟩:=a6 v _ hy
   obtain⟨ab,ao,rfl,_⟩:=bU a0 (by omega)
   have l0:bA prog 3 ⟨ab,ao+v*7,none⟩ M0=some (i64 arcs[v].f):=mF (P:=prog) (ty:=3) a0 hy (j:=0) rfl bQ
   have l1:bA prog 3 ⟨ab,ao+v*7+1,none⟩ M0=some (i64 arcs[v].t):=mF (P:=prog) (ty:=3) a0 hy (j:=1) rfl bQ
   have l3:bA prog 3 ⟨ab,ao+v*7+3,none⟩ M0=some (i64 arcs[v].c):=mF (P:=prog) (ty:=3) a0 hy (j:=3) rfl bQ
   obtain⟨T1,M2,q1,q2,q3⟩:=rs0 q x qc ec rb ro rc ab ao ac ub uc db dc n v qa ea es rank arcs up down l arcs[v] a3 X1 pq a8 a9 a0 b0 a7 hg (Go.Am.jL a0 (by omega)) a5 a2 a4 hy hv hF.un hF.un (hF.len a4) hF.un.ne a1 hF.wk hF.ne hF.cost (xAb (by omega)) (by rw[Int.toNat_natCast];exact l0) (by rw[Int.toNat_natCast];exact l1) (by rw[Int.toNat_natCast];exact l3)
   rw[bD (by omega)] at q2
   exact⟨(),T1,M2,q1,q2,q3⟩)
  (by
   rintro _ M1 ⟨X1,a3,a5,a2⟩
   exact rs0x q x ec rb ro rc ac ub uc db dc n arcs.length ea aa es arcs (M:=M1) a2 (AP.Ext (R:=dJ) a0 X1) (xAa (by omega)))
  arcs.length 0 (by omega) (s:=()) (M:=M) ⟨X0,hM,gq,gx⟩
 exact⟨M',k1,k2,k3⟩
theorem rK5:Tryz.f5.results= #[.tmp 6]:=by kernel_rfl
theorem w5(size:Int)(g6:Option Addr)(g7:Nat)(ns:List Int)(md:Int){M:aB}(hM:aA M)(m8:aH ns (.slice g6 ns.length g7) M): ∃v_ M',Ev prog [] 5 [i64 size,.slice g6 ns.length g7,i64 md] M v_ M'/\Ext M M'/\aA M'/\v_= .bool true:=by
 obtain⟨w1,N2,M3,p4,l5,e6,E7,m7,F9⟩:=aL (x:=()) hM con8 (rfl)
 have m3:w1=(.bool true):=F9
 subst m3
 have j5:=(Ext.refl M).trans E7
 obtain⟨o3,o6,e1,o0,n6,m1,k4,i1,k5⟩:=aL (x:=(size,ns,md)) m7 con9 (⟨_,_,_,rfl,rfl,AP.Ext (R:=aH) m8 j5,rfl⟩)
 obtain⟨o5,d4,g0⟩:mN ((kQ size),(wQ size ns md)) o3 (cI [(0,M3.next)] e1):=kV k5
 simp only at d4 g0
 obtain⟨b0,b5,g9⟩:=aJ.form g0
 subst g9
 subst d4
 have j6:=j5.trans k4
 obtain⟨c8,g1,c2,h3,m4,j3,i2⟩:=bC i1 ⟨[i64 0,eW],26,2,0,true⟩
 have i9:=lQ c2 j6
 have k6:=jK (R:=aS) g0 c2 j3
 have l8:=j6.trans j3
 obtain⟨a6,o2,h9,i7,l9,i3,n8⟩:=aZ (o:=0) (v:=(.agg ⟨[i64 ((kQ size):Int),.slice b0 (wQ size ns md).length b5]⟩)) (new:= [i64 ((kQ size):Int),.slice b0 (wQ size ns md).length b5]) l8 i9 i2 uV m4 rfl rfl (Nat.zero_le _) (xAd rfl) rfl
 have j4:=hQ (R:=aS) k6 (fun id h _=>i7 id h) (by intro id hh;simp only [bR] at hh;omega)
 obtain⟨HS,e3⟩: ∃s,s=iH (kQ size) (wQ size ns md) (bW (kQ size) (wQ size ns md)):=⟨_,rfl⟩
 obtain⟨m9,i6,k1,k2,n0⟩:=zJ (rW (wF size ns md)) (iZ (wF size ns md)) (rZ (wF size ns md)) (by have:=mT size;omega)
 rw[<-e3] at m9 i6 k1 k2 n0
 have ltb27M70:=aB.lt_of_get h9
 obtain⟨o4,o7,a7,o1,n7,m2,e0,i4,k7⟩:=aL (x:=((kQ size),(wQ size ns md))) i3 con11 (⟨⟨_,rfl,_,rfl,eF (R:=aS) j4⟩,wF size ns md,(by have:=mT size;omega)⟩)
 have n9:=e0.next
 have k8:=fT (R:=aS) j4 e0
 have j8:=e0.old h9
 have l6:pJ (Tg (kQ size) (wQ size ns md) HS) o4 (cI [(0,a6.next)] a7):=by rw[e3];exact kV k7
 obtain⟨n1,n2,n3,n4,n5,h5,e4,d9,e5,e7,e8⟩:=l6
 replace e4:aS (wQ size ns md) n1 (cI [(0,a6.next)] a7):=e4
 obtain⟨b1,b6,h1⟩:=aJ.form e4
 replace d9:aH HS.rank n2 (cI [(0,a6.next)] a7):=d9
 obtain⟨o8,b7,d0⟩:=aJ.form d9
 replace e5:dJ HS.b.arcs n3 (cI [(0,a6.next)] a7):=e5
 obtain⟨b2,b8,h2⟩:=aJ.form e5
 replace e7:aW HS.up n4 (cI [(0,a6.next)] a7):=e7
 obtain⟨b3,b9,d1⟩:=eY e7
 replace e8:aW HS.down n5 (cI [(0,a6.next)] a7):=e8
 obtain⟨b4,c0,d2⟩:=eY e8
 rw[i6] at d0
 rw[k1] at d1
 rw[k2] at d2
 subst h1 d0 h2 d1 d2
 subst h5
 obtain⟨a3,a4,h0,_⟩:=bU d9 (by rw[i6];have:=mT size;omega)
 subst h0
 have j7:=l9.trans e0
 obtain⟨c9,g2,a2,h4,m5,a9,i5⟩:=bC i4 ⟨[i64 0,eW,eW,eW,eW,eW],32,6,0,true⟩
 have j0:=lQ a2 j7
 have a8:=fJ j8 a2
 have k9:=jK (R:=aS) k8 a2 a9
 have l0:=jK (R:=aS) e4 a2 a9
 have l1:=jK (R:=aH) d9 a2 a9
 have l2:=jK (R:=dJ) e5 a2 a9
 have l3:=jK (R:=aW) e7 a2 a9
 have l4:=jK (R:=aW) e8 a2 a9
 have m6:=a9.old j8
 have m0:=j7.trans a9
 obtain⟨e2,q98,j9,a0,g3,d6,k3⟩:=aZ (o:=0) (v:=(.agg ⟨[i64 ((kQ size):Int),.slice b1 (wQ size ns md).length b6,aC a3 a4 (kQ size) b7,.slice b2 HS.b.arcs.length b8,aC b3 0 (kQ size) b9,aC b4 0 (kQ size) c0]⟩)) (new:= [i64 ((kQ size):Int),.slice b1 (wQ size ns md).length b6,aC a3 a4 (kQ size) b7,.slice b2 HS.b.arcs.length b8,aC b3 0 (kQ size) b9,aC b4 0 (kQ size) c0]) m0 j0 i5 rR m5 rfl rfl (Nat.zero_le _) (xAd rfl) rfl
 have f0:=hQ (R:=aS) k9 (fun id h _=>a0 id h) (by intro id hh;simp only [bR] at hh;omega)
 have c3:=hQ (R:=aS) l0 (fun id h _=>a0 id h) (by intro id hh;simp only [bR] at hh;omega)
 have c4:=hQ (R:=aH) l1 (fun id h _=>a0 id h) (by intro id hh;simp only [bR] at hh;omega)
 have c5:=hQ (R:=dJ) l2 (fun id h _=>a0 id h) (by intro id hh;simp only [bR] at hh;omega)
 have c6:=hQ (R:=aW) l3 (fun id h _=>a0 id h) (by intro id hh;simp only [bR] at hh;omega)
 have c7:=hQ (R:=aW) l4 (fun id h _=>a0 id h) (by intro id hh;simp only [bR] at hh;omega)
 have h6:=(a0 _ a8).trans m6
 have k0:GX (Tg (kQ size) (wQ size ns md) HS):=by rw[e3];exact Qk (n:=(kQ size)) (es:=(wQ size ns md)) (wF size ns md) (by have:=mT size;omega)
 obtain⟨j2,l7,a5,j1,i8,g8,a1,d7,f1⟩:=aL (x:=(Tg (kQ size) (wQ size ns md) HS)) d6 con16 (⟨⟨_,rfl,⟨_,_,_,_,_,rfl,eF (R:=aS) c3,eF (R:=aH) c4,eF (R:=dJ) c5,eF (R:=aW) c6,eF (R:=aW) c7⟩⟩,k0⟩)
 have f2:=fT (R:=aS) f0 a1
 have f3:=fT (R:=aS) c3 a1
 have f4:=fT (R:=aH) c4 a1
 have f6:=fT (R:=dJ) c5 a1
 have f7:=fT (R:=aW) c6 a1
 have f8:=fT (R:=aW) c7 a1
 have h7:=a1.old h6
 have h8:=a1.old j9
 have d3:j2=(.bool true):=f1
 subst d3
 have g4:=g3.trans a1
 have i0: ∀(i:Nat) (x:A7),HS.b.arcs[i]?=some x-> ∃G l,AF (kQ size) (wQ size ns md) G HS.b.arcs i x l:=by rw[e3];exact We (wF size ns md)
 obtain⟨c1,d5,e9,d8⟩:=Zz (M0:=a5) (eF (R:=aS) f2) (eF (R:=aS) f3) (eF (R:=aH) f4) (eF (R:=dJ) f6) (eF (R:=aW) f7) (eF (R:=aW) f8) k0 d7 (Ext.refl a5) h7 h8 (rW (wF size ns md)) (by have:=mT size;omega) i0
 have g5:=g4.trans e9
 exact⟨.bool true,c1,Ev.told_tmp (tb:=[0]) (n:=200) (F:=[bJ 3 (.bool true) M3,bJ 14 (.agg ⟨[i64 ((kQ size):Int),.slice b0 (wQ size ns md).length b5]⟩) e1,bJ 16 (pt c8 0) g1,jE 18 a6,aR 20 (.agg ⟨[i64 ((kQ size):Int),.slice b0 (wQ size ns md).length b5]⟩),bJ 22 (.agg ⟨[i64 ((kQ size):Int),.slice b1 (wQ size ns md).length b6,aC a3 a4 (kQ size) b7,.slice b2 HS.b.arcs.length b8,aC b3 0 (kQ size) b9,aC b4 0 (kQ size) c0]⟩) a7,bJ 24 (pt c9 0) g2,jE 26 e2,aR 28 (.agg ⟨[i64 ((kQ size):Int),.slice b1 (wQ size ns md).length b6,aC a3 a4 (kQ size) b7,.slice b2 HS.b.arcs.length b8,aC b3 0 (kQ size) b9,aC b4 0 (kQ size) c0]⟩),bJ 30 (.bool true) a5,.blk 36 [7,8,9] .normal (fr []) c1]) aG aF Tryz.func5 q5_ok (by kernel_rfl) rK5 (fun B=>wR (gH 8 Q8 (gH 9 Q9 (gH 11 Q11 (gH 16 Q16 (gL _))))) 0 d5) (fun _ h=>bZ h) (by kernel_rfl) (hq (qC 8 [] M (.bool true) M3) (aK rfl p4 l5 e6) (hq (qC 9 [i64 size,.slice g6 ns.length g7,i64 md] M3 (.agg ⟨[i64 ((kQ size):Int),.slice b0 (wQ size ns md).length b5]⟩) e1) (aK rfl o0 n6 m1) (hq (.eq (cM prog 26 e1) (1,.val (pt c8 0),g1)) (bN (by rw[<-c2,<-h3];kernel_rfl) xAc) (hq (qS 26 c8 0 (.agg ⟨[i64 ((kQ size):Int),.slice b0 (wQ size ns md).length b5]⟩) g1 a6) (dB o2) (hq (qL 26 c8 0 a6 (.agg ⟨[i64 ((kQ size):Int),.slice b0 (wQ size ns md).length b5]⟩)) (lA ⟨zB,uV⟩ h9 rfl) (hq (qC 11 [.agg ⟨[i64 ((kQ size):Int),.slice b0 (wQ size ns md).length b5]⟩] a6 (.agg ⟨[i64 ((kQ size):Int),.slice b1 (wQ size ns md).length b6,aC a3 a4 (kQ size) b7,.slice b2 HS.b.arcs.length b8,aC b3 0 (kQ size) b9,aC b4 0 (kQ size) c0]⟩) a7) (aK rfl o1 n7 m2) (hq (.eq (cM prog 32 a7) (1,.val (pt c9 0),g2)) (bN (by rw[<-a2,<-h4];kernel_rfl) xAc) (hq (qS 32 c9 0 (.agg ⟨[i64 ((kQ size):Int),.slice b1 (wQ size ns md).length b6,aC a3 a4 (kQ size) b7,.slice b2 HS.b.arcs.length b8,aC b3 0 (kQ size) b9,aC b4 0 (kQ size) c0]⟩) g2 e2) (dB q98) (hq (qL 32 c9 0 e2 (.agg ⟨[i64 ((kQ size):Int),.slice b1 (wQ size ns md).length b6,aC a3 a4 (kQ size) b7,.slice b2 HS.b.arcs.length b8,aC b3 0 (kQ size) b9,aC b4 0 (kQ size) c0]⟩)) (lA ⟨uU,rR⟩ j9 rfl) (hq (qC 16 [.agg ⟨[i64 ((kQ size):Int),.slice b1 (wQ size ns md).length b6,aC a3 a4 (kQ size) b7,.slice b2 HS.b.arcs.length b8,aC b3 0 (kQ size) b9,aC b4 0 (kQ size) c0]⟩] e2 (.bool true) a5) (aK rfl j1 i8 g8) (hq (.blk 0 (.loop (q5.loopAt 0)) Tryz.f5.ntmps [7,8,9] [some (pt c8 0),some (pt c9 0),some (i64 0)] a5 .normal (fr []) c1) (fB rfl) hn))))))))))),g5,d8,rfl⟩
end Go.Proofs.YtdaglldahidmbaaGreat
