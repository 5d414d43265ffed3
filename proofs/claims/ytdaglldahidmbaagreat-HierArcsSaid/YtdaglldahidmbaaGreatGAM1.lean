/-
  Package hier: each of its laws for every argument; no conditions. The last text states which.
-/
import Derived.Test.YtdaglldahidmbaaGreatGAJ1
import Derived.Test.YtdaglldahidmbaaGreatGAmRk
import Derived.Test.YtdaglldahidmbaaGreatGVB
set_option linter.unusedVariables false
set_option linter.unusedSimpArgs false
open Go Go.Am Go.Proofs Tryz
namespace Go.Proofs.YtdaglldahidmbaaGreat
set_option maxRecDepth 100000
theorem rK47:Tryz.f47.results= #[.tmp 4]:=by kernel_rfl
theorem w30j(y:A7)(i:Int){M:aB}(hM:aA M)(ha:0<=y.a/\y.a<i)(hb:0<=y.b/\y.b<i): ∃v_ M',Ev prog [] 47 [.agg ⟨(bM y)⟩,i64 i] M v_ M'/\Ext M M'/\aA M'/\v_= .bool true:=by
 obtain⟨b1,M2,a0,a1,g5,E6,a2⟩:=bC hM ⟨(bM y),42,7,0,true⟩
 have X9:=(Ext.refl M).trans E6
 exact⟨.bool (decide (y.b<i)),M2,Ev.told_tmp (tb:=[]) (n:=60) (F:=[bJ 1 (pt b1 0) M2,aR 7 (i64 y.a),aQ 12,aQ 14,aR 15 (i64 y.a),aQ 16,aQ 18,aQ 21,aQ 24,aQ 26,aR 27 (i64 y.b),aQ 28,aQ 31,aQ 34,aQ 36,aR 37 (i64 y.b),aQ 38,aQ 40,aQ 43]) aG aF Tryz.func47 aAL (by kernel_rfl) rK47 (aI prog) (fun _ _=>rfl) (by kernel_rfl) (hq (.eq (eI prog 42 (.agg ⟨(bM y)⟩) M) (1,.val (pt b1 0),M2)) (bN (by rw[<-a0,<-a1];kernel_rfl) xAc) (hk (lO 5 bQ g5 rfl) (hk (bT (x:=decide (y.a>=(0:Int))) (xAb (by omega))) (hk (bT (x:=decide (y.a>=(0:Int))) (xAb (by omega))) (hk (lO 5 bQ g5 rfl) (hk (bT (x:=decide (y.a>=(0:Int))) (xAb (by omega))) (hk (bT (x:=decide (y.a>=(0:Int))) (xAb (by omega))) (hk (bT (x:=decide (y.a>=(0:Int))) (xAb (by omega))) (hk (bT (x:=decide (y.a<i)) (xAb (by omega))) (hk (bT (x:=decide (y.a<i)) (xAb (by omega))) (hk (lO 6 bQ g5 rfl) (hk (bT (x:=decide (y.a<i)) (xAb (by omega))) (hk (bT (x:=decide (y.a<i)) (xAb (by omega))) (hk (bT (x:=decide (y.b>=(0:Int))) (xAb (by omega))) (hk (bT (x:=decide (y.b>=(0:Int))) (xAb (by omega))) (hk (lO 6 bQ g5 rfl) (hk (bT (x:=decide (y.b>=(0:Int))) (xAb (by omega))) (hk (bT (x:=decide (y.b>=(0:Int))) (xAb (by omega))) (hk (bT (x:=decide (y.b>=(0:Int))) (xAb (by omega))) hn))))))))))))))))))),X9,a2,(by show Value.bool _=Value.bool _;rw[xAb (by omega)])⟩
abbrev Q47:=FC (gN (lX Fo pI) fun x=>(0<=x.1.a/\x.1.a<x.2)/\(0<=x.1.b/\x.1.b<x.2)) (plain pB) (fun _=>true)
theorem con47{x:A7×Int}{lv:List Value}{M:aB}(hM:aA M)(h:(gN (lX Fo pI) fun x:A7×Int=>(0<=x.1.a/\x.1.a<x.2)/\(0<=x.1.b/\x.1.b<x.2)) x lv M): ∃v M',kR prog [] 47 Q47 lv M v M':=by
 refine FC.con h ?_
 obtain⟨⟨g0,g1,rfl,k0,k1⟩,h1,h2⟩:=h
 obtain⟨y,i⟩:=x
 obtain rfl:=k0
 obtain rfl:=k1
 obtain⟨v,M',q1,q2,_,q3⟩:=w30j y i hM h1 h2
 exact⟨v,M',q1,q2,q3⟩
theorem wP{m:Nat}(h:m<1000000):IntKind.wrap .i64 ((((m+1:Nat):Nat):Int)-(1:Int))=(m:Int):=by rw[Go.Am.eG (i:=(((m+1:Nat):Nat):Int)-1) (by omega) (by omega)];omega
theorem rue(x wb wc m ab ao L ac i n:Nat)(ev rv uv dv:Value)(cs ws:List Value)(E:List Int)(y:A7)(S:Value){M M0:aB}(hM:aA M)(X0:Ext M0 M)(hab:ab<M0.next)(gx:M.get x=some ⟨[i64 (n:Int),ev,rv,aC ab ao L ac,uv,dv],32,6,0,true⟩)(nx_:M0.next<=x)(gw:M.get wb=some ⟨cs,3,1,0,true⟩)(nwb:M0.next<=wb)(dxwb:x≠wb)(hm:m<1000000)(hE30:E.length<1000000)(hws:cP (m*1) cs=some ws)(hi:i<L)(hA:cR 3 1 M0 [x,wb] E.length (E.map i64) S M)(d5:(decide (y.e>=(0:Int)))=true)(e2:(cs)[0+(IntKind.wrap .i64 (((m+1:Nat):Int)-(1:Int)):Int).toNat*1]?=some (i64 (i:Int)))(c0:bA prog 42 ⟨ab,ao+((i:Int):Int).toNat*7,none⟩ M0=some (.agg ⟨(bM y)⟩)): ∃T1 M' a1,Rd prog [] (q17.loopAt 0) Tryz.f17.ntmps (fr [(2,(pt x 0)),(5,S),(6,(aC wb 0 (m+1) wc))]) M .normal T1 M'/\ [2,5,6].map T1.get= [some (pt x 0),some a1,some (aC wb 0 m m)]/\Ext M0 M'/\aA M'/\M'.get x=some ⟨[i64 (n:Int),ev,rv,aC ab ao L ac,uv,dv],32,6,0,true⟩/\M'.get wb=some ⟨cs,3,1,0,true⟩/\cR 3 1 M0 [x,wb] (E.length+1) ((E.map i64)++ [i64 y.e]) a1 M':=by
 obtain⟨b1,M2,a6,d6,g5,E6,e1⟩:=bC hM ⟨[i64 0,i64 0,i64 0,i64 0,i64 0,i64 0,i64 0],42,7,0,true⟩
 have e4:=lQ a6 X0
 have b5:=fJ gx a6
 have a5:=fJ gw a6
 have A8:=hA.new a6 E6
 have g9:=E6.old gx
 have d7:=E6.old gw
 have d2:=X0.trans E6
 obtain⟨a4,e7,a9,a2,c2,b7,e6⟩:=aZ (o:=0) (v:=(.agg ⟨(bM y)⟩)) (new:= (bM y)) d2 e4 e1 kG g5 rfl rfl (Nat.zero_le _) (xAd rfl) rfl
 have c9:=A8.keep (by simp) (fun id h _=>a2 id h)
 have c4:=(a2 _ b5).trans g9
 have c5:=(a2 _ a5).trans d7
 obtain⟨b3,b2,a0,b6,c6,a3,b8⟩:=bC b7 ⟨[i64 y.e],3,1,0,true⟩
 have e5:=lQ a0 c2
 have c3:=fJ c4 a0
 have b4:=fJ c5 a0
 have db1b23:=fJ a9 a0
 have d0:=c9.new a0 a3
 have c7:=a3.old c4
 have c8:=a3.old c5
 have d8:=a3.old a9
 have d3:=c2.trans a3
 obtain⟨b0,a1,a8,e8,d4,b9,d1,a7,e3⟩:=fX (P:=prog) (sT:=22) (xT:=22) (y:=8) (c:=2) d0 d3 b8 (by intro x hx;simp only [List.mem_cons,List.not_mem_nil,or_false] at hx;rcases hx with rfl|rfl|rfl|rfl<;>first|exact aB.lt_of_get c6|exact aB.lt_of_get d8|exact aB.lt_of_get c7|exact aB.lt_of_get c8) (by kernel_rfl) (by kernel_rfl) (by kernel_rfl) (by kernel_rfl) (by decide) (by decide) rfl (show E.length<1073741824 by omega) c6 (o:=0) (new:= [i64 y.e]) rfl rfl rfl
 have d9:=a7 _ _ c7 (by simp)
 have e0:=a7 _ _ c8 (by simp)
 have c1:oR prog [] 200 Tryz.f17 (q17.loopAt 0) [(2,(pt x 0)),(5,S),(6,(aC wb 0 (m+1) wc))] M [aQ 6,aQ 20,aR 22 (i64 (i:Int)),aR 30 (aC wb 0 m m),aR 36 (aC ab ao L ac),aQ 40,aR 42 (.agg ⟨(bM y)⟩),bJ 44 (pt b1 0) M2,jE 46 a4,aR 50 (i64 y.e),aQ 53,aR 59 (i64 y.e),bJ 61 (aC b3 0 1 2) b2,.at 63 ((bif b0 then 1 else 2),.val a1,a8)] [2,5,6]=some (.normal,[some (pt x 0),some a1,some (aC wb 0 m m)],a8,[qT (decide (((m+1:Nat):Int)>(0:Int))),.q (.inb (IntKind.wrap .i64 (((m+1:Nat):Int)-(1:Int))) (m+1)) (eD true),qL 3 wb (0+(IntKind.wrap .i64 (((m+1:Nat):Int)-(1:Int)):Int).toNat*1) M (i64 (i:Int)),.q (.slice 22 (aC wb 0 (m+1) wc) none (some (i64 (IntKind.wrap .i64 (((m+1:Nat):Int)-(1:Int))))) none M) (1,.val (aC wb 0 m m),Dt),qL 29 x 3 M (aC ab ao L ac),.q (.inb (i:Int) L) (eD true),qL 42 ab (ao+((i:Int):Int).toNat*7) M (.agg ⟨(bM y)⟩),.eq (cM prog 42 M) (1,.val (pt b1 0),M2),qS 42 b1 0 (.agg ⟨(bM y)⟩) M2 a4,qL 3 b1 4 a4 (i64 y.e),qT (decide (y.e>=(0:Int))),qL 3 b1 4 a4 (i64 y.e),.eq (bH prog 22 1 [(0,(i64 y.e))] a4) (1,.val (aC b3 0 1 2),b2),.q (.append [22,22] S (aC b3 0 1 2) b2) ((bif b0 then 1 else 2),.val a1,a8)]):=by cases b0<;>kernel_rfl
 obtain⟨T1,h1,h2⟩:=Rd.told aG aF (aI prog) (fun _ _=>rfl) c1 (hk (bT (xAb (by omega))) (hk (dE (by rw[wP (by omega)];omega) (by rw[wP (by omega)];omega)) (hk (eO (bI (a:=⟨wb,0+(IntKind.wrap .i64 (((m+1:Nat):Int)-(1:Int)):Int).toNat*1,none⟩) bQ gw e2)) (hk (⟨_,rfl,(Hc (by kernel_rfl) (elem:=3) (by kernel_rfl) gw rfl (wP (by omega)) (Nat.lt_succ_self m))⟩) (hk (lC iU gx rfl) (hk (dE (by omega) (by omega)) (hk (eO (aN X0 c0)) (hk (bN (by rw[<-a6,<-d6];kernel_rfl) xAc) (hk (dB e7) (hk (lC bQ a9 rfl) (hk (bT d5) (hk (lC bQ a9 rfl) (hk (bN (by rw[<-a0,<-b6];kernel_rfl) xAc) (hk (kB e8 (by cases b0<;>simp)) hn))))))))))))))
 exact⟨T1,a8,a1,h1,h2,d4,b9,d9,e0,d1.less (by intro x hx;simp only [List.mem_cons,List.not_mem_nil,or_false] at hx⊢;omega)⟩
theorem rus(x wb wc m ab ao L ac i n:Nat)(ev rv uv dv:Value)(cs ws:List Value)(E:List Int)(y:A7)(ea:Option Addr){M M0:aB}(hM:aA M)(X0:Ext M0 M)(hab:ab<M0.next)(gx:M.get x=some ⟨[i64 (n:Int),ev,rv,aC ab ao L ac,uv,dv],32,6,0,true⟩)(nx_:M0.next<=x)(gw:M.get wb=some ⟨cs,3,1,0,true⟩)(g3:M0.next<=wb)(b8:x≠wb)(hm:m<1000000)(hE30:E.length<1000000)(g0:cP (m*1) cs=some ws)(hi:i<L)(hA:cR 3 1 M0 [x,wb] E.length (E.map i64) (.slice ea E.length E.length) M)(f6:ea.isNone=true->E.length=0/\E.length=0)(f7:0<=y.a/\y.a<(i:Int))(f8:0<=y.b/\y.b<(i:Int))(hsum:E.length+(m+2)<=1000)(e0:(decide (y.e>=(0:Int)))=false)(f4:(cs)[0+(IntKind.wrap .i64 (((m+1:Nat):Int)-(1:Int)):Int).toNat*1]?=some (i64 (i:Int)))(c7:bA prog 42 ⟨ab,ao+((i:Int):Int).toNat*7,none⟩ M0=some (.agg ⟨(bM y)⟩)): ∃T1 M' a0,Rd prog [] (q17.loopAt 0) Tryz.f17.ntmps (fr [(2,(pt x 0)),(5,(.slice ea E.length E.length)),(6,(aC wb 0 (m+1) wc))]) M .normal T1 M'/\ [2,5,6].map T1.get= [some (pt x 0),some (.slice ea E.length E.length),some (aC a0 0 (m+2) (m+2))]/\Ext M0 M'/\aA M'/\M'.get x=some ⟨[i64 (n:Int),ev,rv,aC ab ao L ac,uv,dv],32,6,0,true⟩/\M0.next<=a0/\M'.get a0=some ⟨(ws++ [i64 y.b,i64 y.a]),3,1,0,true⟩/\x≠a0/\cR 3 1 M0 [x,a0] E.length (E.map i64) (.slice ea E.length E.length) M':=by
 obtain⟨b1,M2,a8,e2,g5,E6,f3⟩:=bC hM ⟨[i64 0,i64 0,i64 0,i64 0,i64 0,i64 0,i64 0],42,7,0,true⟩
 have g2:=lQ a8 X0
 have b7:=fJ gx a8
 have a2:=fJ gw a8
 have A8:=hA.new a8 E6
 have g9:=E6.old gx
 have e3:=E6.old gw
 have d6:=X0.trans E6
 obtain⟨b3,g8,b2,a3,d7,c3,g4⟩:=aZ (o:=0) (v:=(.agg ⟨(bM y)⟩)) (new:= (bM y)) d6 g2 f3 kG g5 rfl rfl (Nat.zero_le _) (xAd rfl) rfl
 have d1:=A8.keep (by simp) (fun id h _=>a3 id h)
 have e4:=(a3 _ b7).trans g9
 have e5:=(a3 _ a2).trans e3
 obtain⟨b6,b4,a7,b9,e6,a5,c4⟩:=bC c3 ⟨[i64 y.b,i64 y.a],3,1,0,true⟩
 have d2:=d1.new a7 a5
 have c2:=a5.old e4
 have e7:=a5.old e5
 have d0:=a5.old b2
 have g6:=a5.next
 have c9:=d7.trans a5
 obtain⟨a0,b0,a1,c0,e8,d8,c5,a4⟩:=tO c9 g3 c4 ⟨ws++ [i64 y.b,i64 y.a],3,1,0,true⟩
 have c8:=lQ a1 c9
 have a6:=fJ c2 a1
 have d3:=d2.grow (x:=wb) (by simp) a1 a4
 have e9:=(a4 _ b8 (aB.lt_of_get c2)).trans c2
 have f0:=(a4 _ (Ne.symm a2) (aB.lt_of_get d0)).trans d0
 obtain⟨h0,h3,b5,g7,g1,e1,a9,c6,d5⟩:=aL (x:=(y,(i:Int))) c5 con47 (⟨⟨_,_,rfl,rfl,rfl⟩,f7,f8⟩)
 have d4:=d3.ext a9
 have f1:=a9.old e9
 have f2:=a9.old e8
 have c1:h0=(.bool true):=d5
 subst c1
 have d9:=d8.trans a9
 obtain⟨T1,h1,h2⟩:=Rd.told (tb:=[]) (n:=200) (F:=[aQ 6,aQ 20,aR 22 (i64 (i:Int)),aR 30 (aC wb 0 m m),aR 36 (aC ab ao L ac),aQ 40,aR 42 (.agg ⟨(bM y)⟩),bJ 44 (pt b1 0) M2,jE 46 b3,aR 50 (i64 y.e),aO 53,aR 59 (i64 y.b),aR 63 (i64 y.a),bJ 65 (aC b6 0 2 3) b4,.at 67 (2,.val (aC a0 0 (m+2) (m+2)),b0),aR 71 (.agg ⟨(bM y)⟩),bJ 75 (.bool true) b5,aQ 83,aO 94]) aG aF (fun B=>lV (gH 47 Q47 (gL _))) (fun _ _=>rfl) (by kernel_rfl) (hk (bT (x:=decide (((m+1:Nat):Int)>(0:Int))) (xAb (by omega))) (hk (qI (IntKind.wrap .i64 (((m+1:Nat):Int)-(1:Int))) (m+1) (by rw[wP (by omega)];omega) (by rw[wP (by omega)];omega)) (hq (qL 3 wb (0+(IntKind.wrap .i64 (((m+1:Nat):Int)-(1:Int)):Int).toNat*1) M (i64 (i:Int))) (eO (bI (a:=⟨wb,0+(IntKind.wrap .i64 (((m+1:Nat):Int)-(1:Int)):Int).toNat*1,none⟩) bQ gw f4)) (hq (.q (.slice 22 (aC wb 0 (m+1) wc) none (some (i64 (IntKind.wrap .i64 (((m+1:Nat):Int)-(1:Int))))) none M) (1,.val (aC wb 0 m m),Dt)) (⟨_,rfl,(Hc (by kernel_rfl) (elem:=3) (by kernel_rfl) gw rfl (wP (by omega)) (Nat.lt_succ_self m))⟩) (hk (lO 3 iU gx rfl) (hk (qI (i:Int) L (by omega) (by omega)) (hk (lD (aN X0 c7)) (hq (.eq (cM prog 42 M) (1,.val (pt b1 0),M2)) (bN (by rw[<-a8,<-e2];kernel_rfl) xAc) (hq (qS 42 b1 0 (.agg ⟨(bM y)⟩) M2 b3) (dB g8) (hk (lO 4 bQ b2 rfl) (hk (bF e0) (hk (lO 6 bQ b2 rfl) (hk (lO 5 bQ b2 rfl) (hq (.eq (bH prog 22 2 [(0,(i64 y.b)),(1,(i64 y.a))] b3) (1,.val (aC b6 0 2 3),b4)) (bN (by rw[<-a7,<-b9];kernel_rfl) xAc) (hq (.q (.append [22,22] (aC wb 0 m m) (aC b6 0 2 3) b4) (2,.val (aC a0 0 (m+2) (m+2)),b0)) (kB (by rw[<-a1,<-c0];exact Ch (n:=2) (by decide) (w:=1) (by kernel_rfl) (by kernel_rfl) (by kernel_rfl) (y:=8) (by kernel_rfl) (by decide) (by decide) (by omega) e6 rfl rfl rfl e7 g0 rfl rfl rfl rfl) (Nat.succ_ne_zero _)) (hq (qL 42 b1 0 b0 (.agg ⟨(bM y)⟩)) (lA ⟨sN,kG⟩ f0 rfl) (hq (qC 47 [.agg ⟨(bM y)⟩,i64 (i:Int)] b0 (.bool true) b5) (aK rfl g7 g1 e1) (hk (lN f6) (hk (bF (x:=decide ((IntKind.wrap .i64 ((E.length:Int)+((m+2:Nat):Int)))>(1000:Int))) (xAa (by rw[Go.Am.eG (i:=(E.length:Int)+((m+2:Nat):Int)) (by omega) (by omega)];omega))) hn)))))))))))))))))))
 exact⟨T1,b5,a0,h1,h2,d9,c6,f1,c8,f2,a6,d4.less (by intro x hx;simp only [List.mem_cons,List.not_mem_nil,or_false] at hx⊢;omega)⟩
theorem rux(x wb wc m:Nat)(S:Value){M:aB}(a0:(decide ((m:Int)>(0:Int)))=false): ∃T1,Rd prog [] (q17.loopAt 0) Tryz.f17.ntmps (fr [(2,(pt x 0)),(5,S),(6,(aC wb 0 m wc))]) M (.exit 0) T1 M/\ [5].map T1.get= [some S]:=by
 exact Rd.told (tb:=[]) (n:=60) (F:=[aO 6]) aG aF (aI prog) (fun _ _=>rfl) (by kernel_rfl) (hk (bF a0) hn)
open Tryz
def fI(i:Nat):Value:=i64 i
theorem Su{cs:List Value}{W:List Nat}{i:Nat}(h:cs.take (W++ [i]).length=(W++ [i]).map fI):cP (W.length*1) cs=some (W.map fI)/\cs[W.length]?=some (fI i)/\cs.take W.length=W.map fI:=by
 have hl:(W++ [i]).length=W.length+1:=by simp
 have hc:W.length+1<=cs.length:=by
  have:=congrArg List.length h
  rw[List.length_take,List.length_map,hl] at this
  omega
 have h3:cs.take W.length=W.map fI:=by
  have e:=congrArg (List.take W.length) h
  rw[List.take_take,Nat.min_eq_left (by rw[hl];omega)] at e
  rw[e,List.map_append]
  exact List.take_left' (by simp)
 refine⟨?_,?_,h3⟩
 ·have:=wO (n:=W.length) (k:=0) (l:=cs) (by omega)
  rw[List.drop_zero,h3] at this
  rw[Nat.mul_one]
  exact this
 ·have h4:(cs.take (W++ [i]).length)[W.length]?=((W++ [i]).map fI)[W.length]?:=by rw[h]
  rw[List.getElem?_take_of_lt (by rw[hl];omega),List.map_append,List.getElem?_append_right (by simp)] at h4
  simpa using h4
structure UpV where
 S:Value
 b:Nat
 c:Nat
 cs:List Value
 u:UpS
theorem aAj{x ac n i:Nat}{aa:Option Addr}{ev rv uv dv:Value}{arcs:List A7}{l0:List Int}{wb wc:Nat}{M0 M:aB}(a6:dJ arcs (.slice aa arcs.length ac) M0)(hu:Un arcs i l0)(hl:l0.length<=1000)(hM:aA M)(X0:Ext M0 M)(gx:M.get x=some ⟨[i64 n,ev,rv,.slice aa arcs.length ac,uv,dv],32,6,0,true⟩)(b7:M0.next<=x)(gw:M.get wb=some ⟨[fI i],3,1,0,true⟩)(b9:M0.next<=wb)(a7:x≠wb):
  ∃S' M',bL prog [] (q17.loopAt 0) Tryz.f17.ntmps (fr [(2,pt x 0),(5,eW),(6,aC wb 0 1 wc)]) M (.exit 0) (fr [(5,S')]) M'/\Ext M0 M'/\aA M'/\cR 3 1 M0 [x] l0.length (l0.map i64) S' M':=by
 have b4:=hu.ne
 have hlen:=a6.len
 obtain⟨s',M',k1,k2⟩:=bL.for (P:=prog) (GL:= []) (b:=q17.loopAt 0) (nt:=Tryz.f17.ntmps) (id:=0) (σ:=UpV) (n:=2*l0.length-1) (Inv:=fun t s M1=>Ext M0 M1/\aA M1/\M1.get x=some ⟨[i64 n,ev,rv,.slice aa arcs.length ac,uv,dv],32,6,0,true⟩/\M0.next<=s.b/\x≠s.b/\M1.get s.b=some ⟨s.cs,3,1,0,true⟩/\s.cs.take s.u.W.length=s.u.W.map fI/\cR 3 1 M0 [x,s.b] s.u.E.length (s.u.E.map i64) s.S M1/\Fa arcs l0 (t) s.u)
  (F:=fun t s=> [(2,pt x 0),(5,s.S),(6,aC s.b 0 s.u.W.length s.c)]) (O:=fun s=> [(5,s.S)])
  (by
   rintro t ⟨S,b,c,cs,u⟩ M1 ht ⟨X1,a2,a5,a0,a1,a3,a4,hA,hU⟩
   simp only at a0 a1 a3 a4 hA hU
   have b5:=hU.pend.len
   have b1:=congrArg List.length hU.all
   rw[List.length_append] at b1
   obtain⟨W,i,y,e1,hi,hy,hw⟩:=hU.go ht
   obtain⟨E,Wu,L⟩:=u
   simp only at e1 a4 hA hw b5 b1
   subst e1
   rw[List.length_append,List.length_singleton] at b5
   obtain⟨c1,c2,c3⟩:=Su a4
   obtain⟨ab,ao,rfl,_⟩:=bU a6 (by omega)
   have b0:=Go.Am.jL a6 (by omega)
   have l2:=kP (P:=prog) (ty:=42) a6 hy sN kG
   have b3:cs[0+(IntKind.wrap .i64 (((W.length+1:Nat):Int)-(1:Int)):Int).toNat*1]?=some (i64 i):=by
    rw[wP (by omega),Int.toNat_natCast,Nat.zero_add,Nat.mul_one]
    exact c2
   have a9:(W++ [i]).length=W.length+1:=by simp
   have l3:bA prog 42 ⟨ab,ao+((i:Int):Int).toNat*7,none⟩ M0=some (.agg ⟨(bM y)⟩):=by rw[Int.toNat_natCast];exact l2
   rcases hw with⟨he,L',a8⟩|⟨he,j,k,L',ha,hb,hj,hk,a8,hs⟩
   ·obtain⟨T1,M2,S2,q1,q2,q3,q4,q5,q6,q7⟩:=rue x b c W.length ab ao arcs.length ac i n ev rv uv dv cs (W.map fI) E y S a2 X1 b0 a5 b7 a3 a0 a1 (by omega) (by omega) c1 hi hA (xAb he) b3 l3
    refine⟨⟨S2,b,W.length,cs,⟨E++ [y.e],W,L'⟩⟩,T1,M2,?_,q2,q3,q4,q5,a0,a1,q6,c3,?_,a8⟩
    ·simp only [a9];exact q1
    ·simp only [List.length_append,List.length_singleton,List.map_append];exact q7
   ·obtain⟨ea,rfl,b8⟩:=hA.form
    obtain⟨T1,M2,b2,q1,q2,q3,q4,q5,q6,q7,q8,q9⟩:=rus x b c W.length ab ao arcs.length ac i n ev rv uv dv cs (W.map fI) E y ea a2 X1 b0 a5 b7 a3 a0 a1 (by omega) (by omega) c1 hi hA b8 ⟨by omega,by omega⟩ ⟨by omega,by omega⟩ (by omega) (xAa (by omega)) b3 l3
    have b6:(W++ [k,j]).length=W.length+2:=by simp
    refine⟨⟨.slice ea E.length E.length,b2,W.length+2,W.map fI++ [i64 y.b,i64 y.a],⟨E,W++ [k,j],L'⟩⟩,T1,M2,?_,?_,q3,q4,q5,q6,q8,q7,?_,q9,a8⟩
    ·simp only [a9];exact q1
    ·simp only [b6];exact q2
    ·simp only [b6]
     rw[ha,hb,List.take_of_length_le (by simp),List.map_append]
     rfl)
  (by
   rintro⟨S,b,c,cs,u⟩ M1 ⟨X1,a2,a5,a0,a1,a3,a4,hA,hU⟩
   obtain⟨d1,d2⟩:=hU.done b4
   simp only at d1
   exact rux x b c u.W.length S (M:=M1) (xAa (by rw[d1];simp)))
  (2*l0.length-1) 0 (by omega) (s:=⟨eW,wb,wc,[fI i],⟨[],[i],l0⟩⟩) (M:=M) ⟨X0,hM,gx,b9,a7,gw,rfl,.inl ⟨rfl,rfl,rfl⟩,Fa.first hu⟩
 obtain⟨X1,a2,a5,a0,a1,a3,a4,hA,hU⟩:=k2
 obtain⟨d1,d2⟩:=hU.done b4
 rw[d2] at hA
 exact⟨s'.S,M',k1,X1,a2,hA.less (by intro z hz;simp only [List.mem_cons,List.not_mem_nil,or_false] at hz⊢;exact .inl hz)⟩
theorem rK17:Tryz.f17.results= #[.tmp 4]:=by kernel_rfl
theorem w13j(n:Nat)(ea:Option Addr)(ec rb ro rc:Nat)(aa:Option Addr)(ac ub uc db dc:Nat)(es:List E4)(rank:List Int)(arcs:List A7)(up down:List (List Int))(i:Nat)(l0:List Int){M:aB}(hM:aA M)(pes:aS es (.slice ea es.length ec) M)(prk:aH rank (aC rb ro n rc) M)(b5:dJ arcs (.slice aa arcs.length ac) M)(pup:aW up (aC ub 0 n uc) M)(pdn:aW down (aC db 0 n dc) M)(hg:GX ⟨n,es,rank,arcs,up,down⟩)(hi:i<arcs.length)(hu:Un arcs i l0)(b0:l0.length<=1000): ∃v_ M',Ev prog [] 17 [.agg ⟨[i64 (n:Int),.slice ea es.length ec,aC rb ro n rc,.slice aa arcs.length ac,aC ub 0 n uc,aC db 0 n dc]⟩,i64 i] M v_ M'/\Ext M M'/\aA M'/\iE aH l0 M.next v_ M':=by
 obtain⟨b1,M2,b4,b9,g5,E6,c2⟩:=bC hM ⟨[i64 (n:Int),.slice ea es.length ec,aC rb ro n rc,.slice aa arcs.length ac,aC ub 0 n uc,aC db 0 n dc],32,6,0,true⟩
 have c3:M.next<=b1:=by rw[<-b4];exact(Ext.refl M).next
 have X9:=(Ext.refl M).trans E6
 obtain⟨a5,a2,a1,a6,c0,b3,a8⟩:=bC c2 ⟨[i64 (i:Int)],3,1,0,true⟩
 have b2:=lQ a1 X9
 have a0:=fJ g5 a1
 have c1:=b3.old g5
 have b7:=X9.trans b3
 obtain⟨a4,a3,a7,b8,a9,b6⟩:=aAj b5 hu b0 a8 b7 c1 c3 c0 b2 a0
 exact⟨a4,a3,Ev.told_tmp (tb:=[0]) (n:=60) (F:=[bJ 1 (pt b1 0) M2,aO 10,aO 12,aO 14,aR 15 (.slice aa arcs.length ac),aO 16,aQ 17,aO 18,aO 21,aO 22,bJ 28 (aC a5 0 1 2) a2,.blk 31 [2,5,6] .normal (fr [(5,a4)]) a3]) aG aF Tryz.func17 aAB (by kernel_rfl) rK17 (fun B=>wR (gL B) 0 a7) (fun _ h=>bZ h) (by kernel_rfl) (hq (.eq (eI prog 32 (.agg ⟨[i64 (n:Int),.slice ea es.length ec,aC rb ro n rc,.slice aa arcs.length ac,aC ub 0 n uc,aC db 0 n dc]⟩) M) (1,.val (pt b1 0),M2)) (bN (by rw[<-b4,<-b9];kernel_rfl) xAc) (hk (bF (x:=decide ((i:Int)<(0:Int))) (xAa (by omega))) (hk (bF (x:=decide ((i:Int)<(0:Int))) (xAa (by omega))) (hk (bF (x:=decide ((i:Int)<(0:Int))) (xAa (by omega))) (hk (lO 3 iU g5 rfl) (hk (bF (x:=decide ((i:Int)<(0:Int))) (xAa (by omega))) (hk (lN b5.ln) (hk (bF (x:=decide ((i:Int)<(0:Int))) (xAa (by omega))) (hk (bF (x:=decide ((i:Int)<(0:Int))) (xAa (by omega))) (hk (bF (x:=decide ((i:Int)>=(arcs.length:Int))) (xAa (by omega))) (hq (.eq (bH prog 22 1 [(0,(i64 (i:Int)))] M2) (1,.val (aC a5 0 1 2),a2)) (bN (by rw[<-a1,<-a6];kernel_rfl) xAc) (hq (.blk 0 (.loop (q17.loopAt 0)) Tryz.f17.ntmps [2,5,6] [some (pt b1 0),some eW,some (aC a5 0 1 2)] a2 .normal (fr [(5,a4)]) a3) (fB rfl) hn)))))))))))),b8,a9,sU b6 (by omega)⟩
abbrev Q17:=FC (gN (lX pJ pI) fun x=>GX x.1/\0<=x.2/\ ∃l,Un x.1.arcs x.2.toNat l/\l.length<=1000) (iE aH) (fun x=>Rl x.1.arcs x.2)
theorem con17{x:IX×Int}{lv:List Value}{M:aB}(hM:aA M)(h:(gN (lX pJ pI) fun x:IX×Int=>GX x.1/\0<=x.2/\ ∃l,Un x.1.arcs x.2.toNat l/\l.length<=1000) x lv M): ∃v M',kR prog [] 17 Q17 lv M v M':=by
 refine FC.con h ?_
 obtain⟨⟨g0,g1,rfl,k0,k1⟩,hg,hi,l,hu,hl⟩:=h
 obtain⟨ea,ec,rb,ro,rc,aa,ac,ub,uc,db,dc,rfl,h1,h2,h3,h4,h5⟩:=qD k0 hg
 obtain⟨⟨n,es,rank,arcs,up,down⟩,z⟩:=x
 obtain rfl:=k1
 obtain⟨i,rfl⟩:=Int.eq_ofNat_of_zero_le hi
 have a0:Un arcs i l:=hu
 obtain⟨v,M',q1,q2,_,q3⟩:=w13j n ea ec rb ro rc aa ac ub uc db dc es rank arcs up down i l hM h1 h2 h3 h4 h5 hg a0.lt a0 hl
 refine⟨v,M',q1,q2,?_⟩
 have he:Rl arcs (i:Int)=l:=uR a0
 simp only [he]
 exact q3
end Go.Proofs.YtdaglldahidmbaaGreat
