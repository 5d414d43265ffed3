/-
  Package hier: each of its laws for every argument; no conditions. The last text states which.
-/
import Derived.Test.YtdaglldahidmbaaGAJ1
import Derived.Test.YtdaglldahidmbaaGAmRk
import Derived.Test.YtdaglldahidmbaaGVB
set_option linter.unusedVariables false
set_option linter.unusedSimpArgs false
open Go Go.Am Go.Proofs
namespace Go.Proofs.Ytdaglldahidmbaa
set_option maxRecDepth 100000
theorem rK30:Try.f30.results= #[.tmp 4]:=by kernel_rfl
theorem w30j(y:A7)(i:Int){M:aA}(hM:aB M)(ha:0<=y.a/\y.a<i)(hb:0<=y.b/\y.b<i): ∃v_ M',Ev Try.prog [] 30 [.agg ⟨(bL y)⟩,i64 i] M v_ M'/\Ext M M'/\aB M'/\v_= .bool true:=by
 obtain⟨b1,M2,a0,a1,g5,E6,a2⟩:=bE hM ⟨(bL y),42,7,0,true⟩
 have X9:=(Ext.refl M).trans E6
 exact⟨.bool (decide (y.b<i)),M2,Ev.told_tmp (tb:=[]) (n:=60) (F:=[bK 1 (pt b1 0) M2,aR 7 (i64 y.a),aP 12,aP 14,aR 15 (i64 y.a),aP 16,aP 18,aP 21,aP 24,aP 26,aR 27 (i64 y.b),aP 28,aP 31,aP 34,aP 36,aR 37 (i64 y.b),aP 38,aP 40,aP 43]) aG aF Try.func30 aAq (by kernel_rfl) rK30 (aI Try.prog) (fun _ _=>rfl) (by kernel_rfl) (hq (.eq (eL Try.prog 42 (.agg ⟨(bL y)⟩) M) (1,.val (pt b1 0),M2)) (bP (by rw[<-a0,<-a1];kernel_rfl) Nat.one_ne_zero) (hk (lO 5 bV g5 rfl) (hk (bT (x:=decide (y.a>=(0:Int))) (decide_eq_true (by omega))) (hk (bT (x:=decide (y.a>=(0:Int))) (decide_eq_true (by omega))) (hk (lO 5 bV g5 rfl) (hk (bT (x:=decide (y.a>=(0:Int))) (decide_eq_true (by omega))) (hk (bT (x:=decide (y.a>=(0:Int))) (decide_eq_true (by omega))) (hk (bT (x:=decide (y.a>=(0:Int))) (decide_eq_true (by omega))) (hk (bT (x:=decide (y.a<i)) (decide_eq_true (by omega))) (hk (bT (x:=decide (y.a<i)) (decide_eq_true (by omega))) (hk (lO 6 bV g5 rfl) (hk (bT (x:=decide (y.a<i)) (decide_eq_true (by omega))) (hk (bT (x:=decide (y.a<i)) (decide_eq_true (by omega))) (hk (bT (x:=decide (y.b>=(0:Int))) (decide_eq_true (by omega))) (hk (bT (x:=decide (y.b>=(0:Int))) (decide_eq_true (by omega))) (hk (lO 6 bV g5 rfl) (hk (bT (x:=decide (y.b>=(0:Int))) (decide_eq_true (by omega))) (hk (bT (x:=decide (y.b>=(0:Int))) (decide_eq_true (by omega))) (hk (bT (x:=decide (y.b>=(0:Int))) (decide_eq_true (by omega))) hn))))))))))))))))))),X9,a2,(by show Value.bool _=Value.bool _;rw[decide_eq_true (by omega)])⟩
abbrev Q30:=FC (hZ (mU Fl pI) fun x=>(0<=x.1.a/\x.1.a<x.2)/\(0<=x.1.b/\x.1.b<x.2)) (plain pB) (fun _=>true)
theorem con30{x:A7×Int}{lv:List Value}{M:aA}(hM:aB M)(h:(hZ (mU Fl pI) fun x:A7×Int=>(0<=x.1.a/\x.1.a<x.2)/\(0<=x.1.b/\x.1.b<x.2)) x lv M): ∃v M',lM Try.prog [] 30 Q30 lv M v M':=by
 refine FC.con h ?_
 obtain⟨⟨g0,g1,rfl,k0,k1⟩,h1,h2⟩:=h
 obtain⟨y,i⟩:=x
 obtain rfl:=k0
 obtain rfl:=k1
 obtain⟨v,M',q1,q2,_,q3⟩:=w30j y i hM h1 h2
 exact⟨v,M',q1,q2,q3⟩
theorem wK{m:Nat}(h:m<1000000):IntKind.wrap .i64 ((((m+1:Nat):Nat):Int)-(1:Int))=(m:Int):=by rw[Go.Am.eK (i:=(((m+1:Nat):Nat):Int)-1) (by omega) (by omega)];omega
theorem rue(x wb wc m ab ao L ac i n:Nat)(ev rv uv dv:Value)(cs ws:List Value)(E:List Int)(y:A7)(S:Value){M M0:aA}(hM:aB M)(X0:Ext M0 M)(hab:ab<M0.next)(gx:M.get x=some ⟨[i64 (n:Int),ev,rv,aC ab ao L ac,uv,dv],31,6,0,true⟩)(nx_:M0.next<=x)(gw:M.get wb=some ⟨cs,3,1,0,true⟩)(nwb:M0.next<=wb)(dxwb:x≠wb)(hm:m<1000000)(hE30:E.length<1000000)(hws:cV (m*1) cs=some ws)(hi:i<L)(hA:cT 3 1 M0 [x,wb] E.length (E.map i64) S M)(d5:(decide (y.e>=(0:Int)))=true)(e2:(cs)[0+(IntKind.wrap .i64 (((m+1:Nat):Int)-(1:Int)):Int).toNat*1]?=some (i64 (i:Int)))(c0:bI Try.prog 42 ⟨ab,ao+((i:Int):Int).toNat*7,none⟩ M0=some (.agg ⟨(bL y)⟩)): ∃T1 M' a1,Rd Try.prog [] (q13.loopAt 0) Try.f13.ntmps (fr [(2,(pt x 0)),(5,S),(6,(aC wb 0 (m+1) wc))]) M .normal T1 M'/\ [2,5,6].map T1.get= [some (pt x 0),some a1,some (aC wb 0 m m)]/\Ext M0 M'/\aB M'/\M'.get x=some ⟨[i64 (n:Int),ev,rv,aC ab ao L ac,uv,dv],31,6,0,true⟩/\M'.get wb=some ⟨cs,3,1,0,true⟩/\cT 3 1 M0 [x,wb] (E.length+1) ((E.map i64)++ [i64 y.e]) a1 M':=by
 obtain⟨b1,M2,a6,d6,g5,E6,e1⟩:=bE hM ⟨[i64 0,i64 0,i64 0,i64 0,i64 0,i64 0,i64 0],42,7,0,true⟩
 have e4:=mG a6 X0
 have b5:=fL gx a6
 have a5:=fL gw a6
 have A8:=hA.new a6 E6
 have g9:=E6.old gx
 have d7:=E6.old gw
 have d2:=X0.trans E6
 obtain⟨a4,e7,a9,a2,c2,b7,e6⟩:=aZ (o:=0) (v:=(.agg ⟨(bL y)⟩)) (new:= (bL y)) d2 e4 e1 lP g5 rfl rfl (Nat.zero_le _) (Nat.le_of_ble_eq_true rfl) rfl
 have c9:=A8.keep (by simp) (fun id h _=>a2 id h)
 have c4:=(a2 _ b5).trans g9
 have c5:=(a2 _ a5).trans d7
 obtain⟨b3,b2,a0,b6,c6,a3,b8⟩:=bE b7 ⟨[i64 y.e],3,1,0,true⟩
 have e5:=mG a0 c2
 have c3:=fL c4 a0
 have b4:=fL c5 a0
 have db1b23:=fL a9 a0
 have d0:=c9.new a0 a3
 have c7:=a3.old c4
 have c8:=a3.old c5
 have d8:=a3.old a9
 have d3:=c2.trans a3
 obtain⟨b0,a1,a8,e8,d4,b9,d1,a7,e3⟩:=gW (P:=Try.prog) (sT:=22) (xT:=22) (y:=8) (c:=2) d0 d3 b8 (by intro x hx;simp only [List.mem_cons,List.not_mem_nil,or_false] at hx;rcases hx with rfl|rfl|rfl|rfl<;>first|exact aA.lt_of_get c6|exact aA.lt_of_get d8|exact aA.lt_of_get c7|exact aA.lt_of_get c8) (by kernel_rfl) (by kernel_rfl) (by kernel_rfl) (by kernel_rfl) (by decide) (by decide) rfl (show E.length<1073741824 by omega) c6 (o:=0) (new:= [i64 y.e]) rfl rfl rfl
 have d9:=a7 _ _ c7 (by simp)
 have e0:=a7 _ _ c8 (by simp)
 have c1:oR Try.prog [] 200 Try.f13 (q13.loopAt 0) [(2,(pt x 0)),(5,S),(6,(aC wb 0 (m+1) wc))] M [aP 6,aP 20,aR 22 (i64 (i:Int)),aR 30 (aC wb 0 m m),aR 36 (aC ab ao L ac),aP 40,aR 42 (.agg ⟨(bL y)⟩),bK 44 (pt b1 0) M2,jJ 46 a4,aR 50 (i64 y.e),aP 53,aR 59 (i64 y.e),bK 61 (aC b3 0 1 2) b2,.at 63 ((bif b0 then 1 else 2),.val a1,a8)] [2,5,6]=some (.normal,[some (pt x 0),some a1,some (aC wb 0 m m)],a8,[qT (decide (((m+1:Nat):Int)>(0:Int))),.q (.inb (IntKind.wrap .i64 (((m+1:Nat):Int)-(1:Int))) (m+1)) (eT true),qL 3 wb (0+(IntKind.wrap .i64 (((m+1:Nat):Int)-(1:Int)):Int).toNat*1) M (i64 (i:Int)),.q (.slice 22 (aC wb 0 (m+1) wc) none (some (i64 (IntKind.wrap .i64 (((m+1:Nat):Int)-(1:Int))))) none M) (1,.val (aC wb 0 m m),Dn),qL 28 x 3 M (aC ab ao L ac),.q (.inb (i:Int) L) (eT true),qL 42 ab (ao+((i:Int):Int).toNat*7) M (.agg ⟨(bL y)⟩),.eq (cN Try.prog 42 M) (1,.val (pt b1 0),M2),qS 42 b1 0 (.agg ⟨(bL y)⟩) M2 a4,qL 3 b1 4 a4 (i64 y.e),qT (decide (y.e>=(0:Int))),qL 3 b1 4 a4 (i64 y.e),.eq (bH Try.prog 22 1 [(0,(i64 y.e))] a4) (1,.val (aC b3 0 1 2),b2),.q (.append [22,22] S (aC b3 0 1 2) b2) ((bif b0 then 1 else 2),.val a1,a8)]):=by cases b0<;>kernel_rfl
 obtain⟨T1,h1,h2⟩:=Rd.told aG aF (aI Try.prog) (fun _ _=>rfl) c1 (hk (bT (decide_eq_true (by omega))) (hk (dY (by rw[wK (by omega)];omega) (by rw[wK (by omega)];omega)) (hk (fF (bG (a:=⟨wb,0+(IntKind.wrap .i64 (((m+1:Nat):Int)-(1:Int)):Int).toNat*1,none⟩) bV gw e2)) (hk (⟨_,rfl,(Gy (by kernel_rfl) (elem:=3) (by kernel_rfl) gw rfl (wK (by omega)) (Nat.lt_succ_self m))⟩) (hk (lC kK gx rfl) (hk (dY (by omega) (by omega)) (hk (fF (aS X0 c0)) (hk (bP (by rw[<-a6,<-d6];kernel_rfl) Nat.one_ne_zero) (hk (dA e7) (hk (lC bV a9 rfl) (hk (bT d5) (hk (lC bV a9 rfl) (hk (bP (by rw[<-a0,<-b6];kernel_rfl) Nat.one_ne_zero) (hk (kS e8 (by cases b0<;>simp)) hn))))))))))))))
 exact⟨T1,a8,a1,h1,h2,d4,b9,d9,e0,d1.less (by intro x hx;simp only [List.mem_cons,List.not_mem_nil,or_false] at hx⊢;omega)⟩
theorem rus(x wb wc m ab ao L ac i n:Nat)(ev rv uv dv:Value)(cs ws:List Value)(E:List Int)(y:A7)(ea:Option Addr){M M0:aA}(hM:aB M)(X0:Ext M0 M)(hab:ab<M0.next)(gx:M.get x=some ⟨[i64 (n:Int),ev,rv,aC ab ao L ac,uv,dv],31,6,0,true⟩)(nx_:M0.next<=x)(gw:M.get wb=some ⟨cs,3,1,0,true⟩)(g2:M0.next<=wb)(b8:x≠wb)(hm:m<1000000)(hE30:E.length<1000000)(f9:cV (m*1) cs=some ws)(hi:i<L)(hA:cT 3 1 M0 [x,wb] E.length (E.map i64) (.slice ea E.length E.length) M)(f6:ea.isNone=true->E.length=0/\E.length=0)(f7:0<=y.a/\y.a<(i:Int))(f8:0<=y.b/\y.b<(i:Int))(hsum:E.length+(m+2)<=1000)(e0:(decide (y.e>=(0:Int)))=false)(f5:(cs)[0+(IntKind.wrap .i64 (((m+1:Nat):Int)-(1:Int)):Int).toNat*1]?=some (i64 (i:Int)))(c7:bI Try.prog 42 ⟨ab,ao+((i:Int):Int).toNat*7,none⟩ M0=some (.agg ⟨(bL y)⟩)): ∃T1 M' a0,Rd Try.prog [] (q13.loopAt 0) Try.f13.ntmps (fr [(2,(pt x 0)),(5,(.slice ea E.length E.length)),(6,(aC wb 0 (m+1) wc))]) M .normal T1 M'/\ [2,5,6].map T1.get= [some (pt x 0),some (.slice ea E.length E.length),some (aC a0 0 (m+2) (m+2))]/\Ext M0 M'/\aB M'/\M'.get x=some ⟨[i64 (n:Int),ev,rv,aC ab ao L ac,uv,dv],31,6,0,true⟩/\M0.next<=a0/\M'.get a0=some ⟨(ws++ [i64 y.b,i64 y.a]),3,1,0,true⟩/\x≠a0/\cT 3 1 M0 [x,a0] E.length (E.map i64) (.slice ea E.length E.length) M':=by
 obtain⟨b1,M2,a8,e2,g5,E6,f4⟩:=bE hM ⟨[i64 0,i64 0,i64 0,i64 0,i64 0,i64 0,i64 0],42,7,0,true⟩
 have g1:=mG a8 X0
 have b7:=fL gx a8
 have a2:=fL gw a8
 have A8:=hA.new a8 E6
 have g9:=E6.old gx
 have e3:=E6.old gw
 have d6:=X0.trans E6
 obtain⟨b3,g7,b2,a3,d7,c3,g3⟩:=aZ (o:=0) (v:=(.agg ⟨(bL y)⟩)) (new:= (bL y)) d6 g1 f4 lP g5 rfl rfl (Nat.zero_le _) (Nat.le_of_ble_eq_true rfl) rfl
 have d1:=A8.keep (by simp) (fun id h _=>a3 id h)
 have e4:=(a3 _ b7).trans g9
 have e5:=(a3 _ a2).trans e3
 obtain⟨b6,b4,a7,b9,e6,a5,c4⟩:=bE c3 ⟨[i64 y.b,i64 y.a],3,1,0,true⟩
 have d2:=d1.new a7 a5
 have c2:=a5.old e4
 have e7:=a5.old e5
 have d0:=a5.old b2
 have g4:=a5.next
 have c9:=d7.trans a5
 obtain⟨a0,b0,a1,c0,e8,d8,c5,a4⟩:=vU c9 g2 c4 ⟨ws++ [i64 y.b,i64 y.a],3,1,0,true⟩
 have c8:=mG a1 c9
 have a6:=fL c2 a1
 have d3:=d2.grow (x:=wb) (by simp) a1 a4
 have e9:=(a4 _ b8 (aA.lt_of_get c2)).trans c2
 have f0:=(a4 _ (Ne.symm a2) (aA.lt_of_get d0)).trans d0
 obtain⟨g8,h0,b5,g6,g0,e1,a9,c6,d5⟩:=aM (x:=(y,(i:Int))) c5 con30 (⟨⟨_,_,rfl,rfl,rfl⟩,f7,f8⟩)
 have d4:=d3.ext a9
 have f1:=a9.old e9
 have f2:=a9.old e8
 have c1:g8=(.bool true):=d5
 subst c1
 have d9:=d8.trans a9
 obtain⟨T1,h1,h2⟩:=Rd.told (tb:=[]) (n:=200) (F:=[aP 6,aP 20,aR 22 (i64 (i:Int)),aR 30 (aC wb 0 m m),aR 36 (aC ab ao L ac),aP 40,aR 42 (.agg ⟨(bL y)⟩),bK 44 (pt b1 0) M2,jJ 46 b3,aR 50 (i64 y.e),aO 53,aR 59 (i64 y.b),aR 63 (i64 y.a),bK 65 (aC b6 0 2 3) b4,.at 67 (2,.val (aC a0 0 (m+2) (m+2)),b0),aR 71 (.agg ⟨(bL y)⟩),bK 75 (.bool true) b5,aP 83,aO 94]) aG aF (fun B=>lQ (gP 30 Q30 (gS _))) (fun _ _=>rfl) (by kernel_rfl) (hk (bT (x:=decide (((m+1:Nat):Int)>(0:Int))) (decide_eq_true (by omega))) (hk (qI (IntKind.wrap .i64 (((m+1:Nat):Int)-(1:Int))) (m+1) (by rw[wK (by omega)];omega) (by rw[wK (by omega)];omega)) (hq (qL 3 wb (0+(IntKind.wrap .i64 (((m+1:Nat):Int)-(1:Int)):Int).toNat*1) M (i64 (i:Int))) (fF (bG (a:=⟨wb,0+(IntKind.wrap .i64 (((m+1:Nat):Int)-(1:Int)):Int).toNat*1,none⟩) bV gw f5)) (hq (.q (.slice 22 (aC wb 0 (m+1) wc) none (some (i64 (IntKind.wrap .i64 (((m+1:Nat):Int)-(1:Int))))) none M) (1,.val (aC wb 0 m m),Dn)) (⟨_,rfl,(Gy (by kernel_rfl) (elem:=3) (by kernel_rfl) gw rfl (wK (by omega)) (Nat.lt_succ_self m))⟩) (hk (lO 3 kK gx rfl) (hk (qI (i:Int) L (by omega) (by omega)) (hk (lD (aS X0 c7)) (hq (.eq (cN Try.prog 42 M) (1,.val (pt b1 0),M2)) (bP (by rw[<-a8,<-e2];kernel_rfl) Nat.one_ne_zero) (hq (qS 42 b1 0 (.agg ⟨(bL y)⟩) M2 b3) (dA g7) (hk (lO 4 bV b2 rfl) (hk (bF e0) (hk (lO 6 bV b2 rfl) (hk (lO 5 bV b2 rfl) (hq (.eq (bH Try.prog 22 2 [(0,(i64 y.b)),(1,(i64 y.a))] b3) (1,.val (aC b6 0 2 3),b4)) (bP (by rw[<-a7,<-b9];kernel_rfl) Nat.one_ne_zero) (hq (.q (.append [22,22] (aC wb 0 m m) (aC b6 0 2 3) b4) (2,.val (aC a0 0 (m+2) (m+2)),b0)) (kS (by rw[<-a1,<-c0];exact My (n:=2) (by decide) (w:=1) (by kernel_rfl) (by kernel_rfl) (by kernel_rfl) (y:=8) (by kernel_rfl) (by decide) (by decide) (by omega) e6 rfl rfl rfl e7 f9 rfl rfl rfl rfl) (Nat.succ_ne_zero _)) (hq (qL 42 b1 0 b0 (.agg ⟨(bL y)⟩)) (lA ⟨uM,lP⟩ f0 rfl) (hq (qC 30 [.agg ⟨(bL y)⟩,i64 (i:Int)] b0 (.bool true) b5) (aJ rfl g6 g0 e1) (hk (lN f6) (hk (bF (x:=decide ((IntKind.wrap .i64 ((E.length:Int)+((m+2:Nat):Int)))>(1000:Int))) (decide_eq_false (by rw[Go.Am.eK (i:=(E.length:Int)+((m+2:Nat):Int)) (by omega) (by omega)];omega))) hn)))))))))))))))))))
 exact⟨T1,b5,a0,h1,h2,d9,c6,f1,c8,f2,a6,d4.less (by intro x hx;simp only [List.mem_cons,List.not_mem_nil,or_false] at hx⊢;omega)⟩
theorem rux(x wb wc m:Nat)(S:Value){M:aA}(a0:(decide ((m:Int)>(0:Int)))=false): ∃T1,Rd Try.prog [] (q13.loopAt 0) Try.f13.ntmps (fr [(2,(pt x 0)),(5,S),(6,(aC wb 0 m wc))]) M (.exit 0) T1 M/\ [5].map T1.get= [some S]:=by
 exact Rd.told (tb:=[]) (n:=60) (F:=[aO 6]) aG aF (aI Try.prog) (fun _ _=>rfl) (by kernel_rfl) (hk (bF a0) hn)
def fI(i:Nat):Value:=i64 i
theorem Sl{cs:List Value}{W:List Nat}{i:Nat}(h:cs.take (W++ [i]).length=(W++ [i]).map fI):cV (W.length*1) cs=some (W.map fI)/\cs[W.length]?=some (fI i)/\cs.take W.length=W.map fI:=by
 have hl:(W++ [i]).length=W.length+1:=by simp
 have hc:W.length+1<=cs.length:=by
  have:=congrArg List.length h
  rw[List.length_take,List.length_map,hl] at this
  omega
 have h3:cs.take W.length=W.map fI:=by
  have e:=congrArg (List.take W.length) h
  rw[List.take_take,Nat.min_eq_left (by rw[hl];omega)] at e
  rw[e,List.map_append]
  exact List.take_left' (by simp)
 refine⟨?_,?_,h3⟩
 ·have:=wI (n:=W.length) (k:=0) (l:=cs) (by omega)
  rw[List.drop_zero,h3] at this
  rw[Nat.mul_one]
  exact this
 ·have h4:(cs.take (W++ [i]).length)[W.length]?=((W++ [i]).map fI)[W.length]?:=by rw[h]
  rw[List.getElem?_take_of_lt (by rw[hl];omega),List.map_append,List.getElem?_append_right (by simp)] at h4
  simpa using h4
structure UpV where
 S:Value
 b:Nat
 c:Nat
 cs:List Value
 u:UpS
theorem Zq{x ac n i:Nat}{aa:Option Addr}{ev rv uv dv:Value}{arcs:List A7}{l0:List Int}{wb wc:Nat}{M0 M:aA}(a6:eN arcs (.slice aa arcs.length ac) M0)(hu:Un arcs i l0)(hl:l0.length<=1000)(hM:aB M)(X0:Ext M0 M)(gx:M.get x=some ⟨[i64 n,ev,rv,.slice aa arcs.length ac,uv,dv],31,6,0,true⟩)(b7:M0.next<=x)(gw:M.get wb=some ⟨[fI i],3,1,0,true⟩)(b9:M0.next<=wb)(a7:x≠wb):
  ∃S' M',bN Try.prog [] (q13.loopAt 0) Try.f13.ntmps (fr [(2,pt x 0),(5,eZ),(6,aC wb 0 1 wc)]) M (.exit 0) (fr [(5,S')]) M'/\Ext M0 M'/\aB M'/\cT 3 1 M0 [x] l0.length (l0.map i64) S' M':=by
 have b4:=hu.ne
 have hlen:=a6.len
 obtain⟨s',M',k1,k2⟩:=bN.for (P:=Try.prog) (GL:= []) (b:=q13.loopAt 0) (nt:=Try.f13.ntmps) (id:=0) (σ:=UpV) (n:=2*l0.length-1) (Inv:=fun t s M1=>Ext M0 M1/\aB M1/\M1.get x=some ⟨[i64 n,ev,rv,.slice aa arcs.length ac,uv,dv],31,6,0,true⟩/\M0.next<=s.b/\x≠s.b/\M1.get s.b=some ⟨s.cs,3,1,0,true⟩/\s.cs.take s.u.W.length=s.u.W.map fI/\cT 3 1 M0 [x,s.b] s.u.E.length (s.u.E.map i64) s.S M1/\Ey arcs l0 (t) s.u)
  (F:=fun t s=> [(2,pt x 0),(5,s.S),(6,aC s.b 0 s.u.W.length s.c)]) (O:=fun s=> [(5,s.S)])
  (by
   rintro t ⟨S,b,c,cs,u⟩ M1 ht ⟨X1,a2,a5,a0,a1,a3,a4,hA,hU⟩
   simp only at a0 a1 a3 a4 hA hU
   have b5:=hU.pend.len
   have b1:=congrArg List.length hU.all
   rw[List.length_append] at b1
   obtain⟨W,i,y,e1,hi,hy,hw⟩:=hU.go ht
   obtain⟨E,Wu,L⟩:=u
   simp only at e1 a4 hA hw b5 b1
   subst e1
   rw[List.length_append,List.length_singleton] at b5
   obtain⟨c1,c2,c3⟩:=Sl a4
   obtain⟨ab,ao,rfl,_⟩:=cF a6 (by omega)
   have b0:=Go.Am.mD a6 (by omega)
   have l2:=mN (P:=Try.prog) (ty:=42) a6 hy uM lP
   have b3:cs[0+(IntKind.wrap .i64 (((W.length+1:Nat):Int)-(1:Int)):Int).toNat*1]?=some (i64 i):=by
    rw[wK (by omega),Int.toNat_natCast,Nat.zero_add,Nat.mul_one]
    exact c2
   have a9:(W++ [i]).length=W.length+1:=by simp
   have l3:bI Try.prog 42 ⟨ab,ao+((i:Int):Int).toNat*7,none⟩ M0=some (.agg ⟨(bL y)⟩):=by rw[Int.toNat_natCast];exact l2
   rcases hw with⟨he,L',a8⟩|⟨he,j,k,L',ha,hb,hj,hk,a8,hs⟩
   ·obtain⟨T1,M2,S2,q1,q2,q3,q4,q5,q6,q7⟩:=rue x b c W.length ab ao arcs.length ac i n ev rv uv dv cs (W.map fI) E y S a2 X1 b0 a5 b7 a3 a0 a1 (by omega) (by omega) c1 hi hA (decide_eq_true he) b3 l3
    refine⟨⟨S2,b,W.length,cs,⟨E++ [y.e],W,L'⟩⟩,T1,M2,?_,q2,q3,q4,q5,a0,a1,q6,c3,?_,a8⟩
    ·simp only [a9];exact q1
    ·simp only [List.length_append,List.length_singleton,List.map_append];exact q7
   ·obtain⟨ea,rfl,b8⟩:=hA.form
    obtain⟨T1,M2,b2,q1,q2,q3,q4,q5,q6,q7,q8,q9⟩:=rus x b c W.length ab ao arcs.length ac i n ev rv uv dv cs (W.map fI) E y ea a2 X1 b0 a5 b7 a3 a0 a1 (by omega) (by omega) c1 hi hA b8 ⟨by omega,by omega⟩ ⟨by omega,by omega⟩ (by omega) (decide_eq_false (by omega)) b3 l3
    have b6:(W++ [k,j]).length=W.length+2:=by simp
    refine⟨⟨.slice ea E.length E.length,b2,W.length+2,W.map fI++ [i64 y.b,i64 y.a],⟨E,W++ [k,j],L'⟩⟩,T1,M2,?_,?_,q3,q4,q5,q6,q8,q7,?_,q9,a8⟩
    ·simp only [a9];exact q1
    ·simp only [b6];exact q2
    ·simp only [b6]
     rw[ha,hb,List.take_of_length_le (by simp),List.map_append]
     rfl)
  (by
   rintro⟨S,b,c,cs,u⟩ M1 ⟨X1,a2,a5,a0,a1,a3,a4,hA,hU⟩
   obtain⟨d1,d2⟩:=hU.done b4
   simp only at d1
   exact rux x b c u.W.length S (M:=M1) (decide_eq_false (by rw[d1];simp)))
  (2*l0.length-1) 0 (by omega) (s:=⟨eZ,wb,wc,[fI i],⟨[],[i],l0⟩⟩) (M:=M) ⟨X0,hM,gx,b9,a7,gw,rfl,.inl ⟨rfl,rfl,rfl⟩,Ey.first hu⟩
 obtain⟨X1,a2,a5,a0,a1,a3,a4,hA,hU⟩:=k2
 obtain⟨d1,d2⟩:=hU.done b4
 rw[d2] at hA
 exact⟨s'.S,M',k1,X1,a2,hA.less (by intro z hz;simp only [List.mem_cons,List.not_mem_nil,or_false] at hz⊢;exact .inl hz)⟩
theorem rK13:Try.f13.results= #[.tmp 4]:=by kernel_rfl
theorem w13j(n:Nat)(ea:Option Addr)(ec rb ro rc:Nat)(aa:Option Addr)(ac ub uc db dc:Nat)(es:List E4)(rank:List Int)(arcs:List A7)(up down:List (List Int))(i:Nat)(l0:List Int){M:aA}(hM:aB M)(pes:aU es (.slice ea es.length ec) M)(prk:aL rank (aC rb ro n rc) M)(b5:eN arcs (.slice aa arcs.length ac) M)(pup:bC up (aC ub 0 n uc) M)(pdn:bC down (aC db 0 n dc) M)(hg:GX ⟨n,es,rank,arcs,up,down⟩)(hi:i<arcs.length)(hu:Un arcs i l0)(b0:l0.length<=1000): ∃v_ M',Ev Try.prog [] 13 [.agg ⟨[i64 (n:Int),.slice ea es.length ec,aC rb ro n rc,.slice aa arcs.length ac,aC ub 0 n uc,aC db 0 n dc]⟩,i64 i] M v_ M'/\Ext M M'/\aB M'/\iQ aL l0 M.next v_ M':=by
 obtain⟨b1,M2,b4,b9,g5,E6,c2⟩:=bE hM ⟨[i64 (n:Int),.slice ea es.length ec,aC rb ro n rc,.slice aa arcs.length ac,aC ub 0 n uc,aC db 0 n dc],31,6,0,true⟩
 have c3:M.next<=b1:=by rw[<-b4];exact(Ext.refl M).next
 have X9:=(Ext.refl M).trans E6
 obtain⟨a5,a2,a1,a6,c0,b3,a8⟩:=bE c2 ⟨[i64 (i:Int)],3,1,0,true⟩
 have b2:=mG a1 X9
 have a0:=fL g5 a1
 have c1:=b3.old g5
 have b7:=X9.trans b3
 obtain⟨a4,a3,a7,b8,a9,b6⟩:=Zq b5 hu b0 a8 b7 c1 c3 c0 b2 a0
 exact⟨a4,a3,Ev.told_tmp (tb:=[0]) (n:=60) (F:=[bK 1 (pt b1 0) M2,aO 10,aO 12,aO 14,aR 15 (.slice aa arcs.length ac),aO 16,aP 17,aO 18,aO 21,aO 22,bK 28 (aC a5 0 1 2) a2,.blk 31 [2,5,6] .normal (fr [(5,a4)]) a3]) aG aF Try.func13 aAh (by kernel_rfl) rK13 (fun B=>zJ (gS B) 0 a7) (fun _ h=>cD h) (by kernel_rfl) (hq (.eq (eL Try.prog 31 (.agg ⟨[i64 (n:Int),.slice ea es.length ec,aC rb ro n rc,.slice aa arcs.length ac,aC ub 0 n uc,aC db 0 n dc]⟩) M) (1,.val (pt b1 0),M2)) (bP (by rw[<-b4,<-b9];kernel_rfl) Nat.one_ne_zero) (hk (bF (x:=decide ((i:Int)<(0:Int))) (decide_eq_false (by omega))) (hk (bF (x:=decide ((i:Int)<(0:Int))) (decide_eq_false (by omega))) (hk (bF (x:=decide ((i:Int)<(0:Int))) (decide_eq_false (by omega))) (hk (lO 3 kK g5 rfl) (hk (bF (x:=decide ((i:Int)<(0:Int))) (decide_eq_false (by omega))) (hk (lN b5.ln) (hk (bF (x:=decide ((i:Int)<(0:Int))) (decide_eq_false (by omega))) (hk (bF (x:=decide ((i:Int)<(0:Int))) (decide_eq_false (by omega))) (hk (bF (x:=decide ((i:Int)>=(arcs.length:Int))) (decide_eq_false (by omega))) (hq (.eq (bH Try.prog 22 1 [(0,(i64 (i:Int)))] M2) (1,.val (aC a5 0 1 2),a2)) (bP (by rw[<-a1,<-a6];kernel_rfl) Nat.one_ne_zero) (hq (.blk 0 (.loop (q13.loopAt 0)) Try.f13.ntmps [2,5,6] [some (pt b1 0),some eZ,some (aC a5 0 1 2)] a2 .normal (fr [(5,a4)]) a3) (fP rfl) hn)))))))))))),b8,a9,wR b6 (by omega)⟩
abbrev Q13:=FC (hZ (mU qN pI) fun x=>GX x.1/\0<=x.2/\ ∃l,Un x.1.arcs x.2.toNat l/\l.length<=1000) (iQ aL) (fun x=>Wv x.1.arcs x.2)
theorem con13{x:IX×Int}{lv:List Value}{M:aA}(hM:aB M)(h:(hZ (mU qN pI) fun x:IX×Int=>GX x.1/\0<=x.2/\ ∃l,Un x.1.arcs x.2.toNat l/\l.length<=1000) x lv M): ∃v M',lM Try.prog [] 13 Q13 lv M v M':=by
 refine FC.con h ?_
 obtain⟨⟨g0,g1,rfl,k0,k1⟩,hg,hi,l,hu,hl⟩:=h
 obtain⟨ea,ec,rb,ro,rc,aa,ac,ub,uc,db,dc,rfl,h1,h2,h3,h4,h5⟩:=rP k0 hg
 obtain⟨⟨n,es,rank,arcs,up,down⟩,z⟩:=x
 obtain rfl:=k1
 obtain⟨i,rfl⟩:=Int.eq_ofNat_of_zero_le hi
 have a0:Un arcs i l:=hu
 obtain⟨v,M',q1,q2,_,q3⟩:=w13j n ea ec rb ro rc aa ac ub uc db dc es rank arcs up down i l hM h1 h2 h3 h4 h5 hg a0.lt a0 hl
 refine⟨v,M',q1,q2,?_⟩
 have he:Wv arcs (i:Int)=l:=Pj a0
 simp only [he]
 exact q3
theorem rss(q x sb eb eo L ec lb lo m lc n i k:Nat)(cs:List Value)(a b:Int)(z2:Bool){M M0:aA}(hM:aB M)(X0:Ext M0 M)(heb:eb<M0.next)(hlb:lb<M0.next)(gq:M.get q=some ⟨[i64 n,aC eb eo L ec],26,2,0,true⟩)(gs:M.get sb=some ⟨cs,4,1,0,true⟩)(a9:M0.next<=sb)(a2:q≠sb)(ha:0<=a/\a<(L:Int))(hb:0<=b/\b<(n:Int))(hkk:k<1000000)(a1:(decide ((IntKind.wrap .i64 ((k:Int)+(1:Int)))<(m:Int)))=true)(a5:(z2)=false)(a0:bI Try.prog 3 ⟨lb,lo+((k:Int):Int).toNat*1,none⟩ M0=some (i64 a))(a3:bI Try.prog 3 ⟨eb,eo+(a:Int).toNat*4+1,none⟩ M0=some (i64 b))(a7:(cs)[0+(b:Int).toNat*1]?=some (.bool z2))(a4:0+(b:Int).toNat*1+1<=(cs).length): ∃T1 M',Rd Try.prog [] (q3.loopAt 2) Try.f3.ntmps (fr [(7,(pt q 0)),(8,(pt x 0)),(9,(i64 (i:Int))),(10,(aC lb lo m lc)),(11,(aC sb 0 n (n+1))),(12,(i64 (k:Int)))]) M .normal T1 M'/\ [7,8,9,10,11,12].map T1.get= [some (pt q 0),some (pt x 0),some (i64 (i:Int)),some (aC lb lo m lc),some (aC sb 0 n (n+1)),some (i64 (IntKind.wrap .i64 ((k:Int)+(1:Int))))]/\Ext M0 M'/\aB M'/\M'.get q=some ⟨[i64 (n:Int),aC eb eo L ec],26,2,0,true⟩/\M'.get sb=some ⟨splice cs (0+(b:Int).toNat*1) [.bool true],4,1,0,true⟩:=by
 obtain⟨M1,q2,g3,a8,X5,a6,b0⟩:=aZ (o:=0+(b:Int).toNat*1) (v:=(.bool true)) (new:=splice cs (0+(b:Int).toNat*1) [.bool true]) X0 a9 hM dS4 gs rfl rfl (Nat.zero_le _) a4 rfl
 have g8:=(a8 _ a2).trans gq
 obtain⟨T1,h1,h2⟩:=Rd.told (tb:=[]) (n:=200) (F:=[aP 10,aP 16,aR 18 (i64 a),aO 23,aO 25,aO 27,aP 28,aO 29,aR 30 (i64 a),aO 31,aO 33,aR 34 (aC eb eo L ec),aO 35,aO 37,aO 40,aO 41,aR 45 (aC eb eo L ec),aP 51,aR 53 (i64 a),aP 55,aR 59 (i64 b),aP 67,aR 69 (.bool z2),aO 70,aP 76,jJ 78 M1]) aG aF (aI Try.prog) (fun _ _=>rfl) (by kernel_rfl) (hk (bT a1) (hk (qI (k:Int) m (by omega) (by have:=of_decide_eq_true a1;rw[aX (by omega)] at this;omega)) (hk (lD (aS X0 a0)) (hk (bF (x:=decide (a<(0:Int))) (decide_eq_false (by omega))) (hk (bF (x:=decide (a<(0:Int))) (decide_eq_false (by omega))) (hk (bF (x:=decide (a<(0:Int))) (decide_eq_false (by omega))) (hk (qI (k:Int) m (by omega) (by have:=of_decide_eq_true a1;rw[aX (by omega)] at this;omega)) (hk (bF (x:=decide (a<(0:Int))) (decide_eq_false (by omega))) (hk (lD (aS X0 a0)) (hk (bF (x:=decide (a<(0:Int))) (decide_eq_false (by omega))) (hk (bF (x:=decide (a<(0:Int))) (decide_eq_false (by omega))) (hk (lO 1 nN gq rfl) (hk (bF (x:=decide (a<(0:Int))) (decide_eq_false (by omega))) (hk (bF (x:=decide (a<(0:Int))) (decide_eq_false (by omega))) (hk (bF (x:=decide (a<(0:Int))) (decide_eq_false (by omega))) (hk (bF (x:=decide (a>=(L:Int))) (decide_eq_false (by omega))) (hk (lO 1 nN gq rfl) (hk (qI (k:Int) m (by omega) (by have:=of_decide_eq_true a1;rw[aX (by omega)] at this;omega)) (hk (lD (aS X0 a0)) (hk (qI a L (by omega) (by omega)) (hk (lD (aS X0 a3)) (hk (qI b n (by omega) (by omega)) (hq (qL 4 sb (0+(b:Int).toNat*1) M (.bool z2)) (fF (bG (a:=⟨sb,0+(b:Int).toNat*1,none⟩) Rh gs a7)) (hk (bF a5) (hk (qI b n (by omega) (by omega)) (hq (qS 4 sb (0+(b:Int).toNat*1) (.bool true) M M1) (dA q2) hn))))))))))))))))))))))))))
 exact⟨T1,M1,h1,h2,X5,a6,g8,g3⟩
theorem rssx(q x sb n m lc i k:Nat)(la:Option Addr){M:aA}(a1:la.isNone=true->m=0/\lc=0)(a0:(decide ((IntKind.wrap .i64 ((k:Int)+(1:Int)))<(m:Int)))=false): ∃T1,Rd Try.prog [] (q3.loopAt 2) Try.f3.ntmps (fr [(7,(pt q 0)),(8,(pt x 0)),(9,(i64 (i:Int))),(10,(.slice la m lc)),(11,(aC sb 0 n (n+1))),(12,(i64 (k:Int)))]) M (.exit 2) T1 M/\ [7,8,9].map T1.get= [some (pt q 0),some (pt x 0),some (i64 (i:Int))]:=by
 exact Rd.told (tb:=[]) (n:=60) (F:=[aP 7,aO 10]) aG aF (aI Try.prog) (fun _ _=>rfl) (by kernel_rfl) (hk (lN a1) (hk (bF a0) hn))
theorem Zp{q x sb qc lc n i:Nat}{qa la:Option Addr}{es:List E4}{l:List Int}{u w md:Int}{M0 M:aA}(pq:aU es (.slice qa es.length qc) M0)(pl:aL l (.slice la l.length lc) M0)(b4:jI n es)(b9:pR es md u l w)(a8:l≠ [])(b7:(fU es l).Nodup)(hll:l.length<=100)(gq:M0.get q=some ⟨[i64 n,.slice qa es.length qc],26,2,0,true⟩)(hM:aB M)(X0:Ext M0 M)(c0:M0.next<=sb)(gs:M.get sb=some ⟨(bR n (fU es l) (0)).map Value.bool,4,1,0,true⟩):
  ∃M',bN Try.prog [] (q3.loopAt 2) Try.f3.ntmps (fr [(7,pt q 0),(8,pt x 0),(9,i64 i),(10,.slice la l.length lc),(11,aC sb 0 n (n+1)),(12,i64 ((0:Nat):Int))]) M (.exit 2) (fr [(7,pt q 0),(8,pt x 0),(9,i64 i)]) M'/\Ext M0 M'/\aB M':=by
 have hTl:=Da es l a8
 obtain⟨_,_,_,a7,a4⟩:=b9.range b4 a8
 have a1:q≠sb:=by have:=aA.lt_of_get gq;omega
 have a0: ∀(u:Nat) (z:Int),(fU es l)[u]?=some z->z= -1\/(0<=z/\z<(n:Int)):=fun u z hz=> .inr (a7 z (List.mem_of_getElem? hz))
 obtain⟨_,M',k1,k2,k3,_⟩:=bN.for (P:=Try.prog) (GL:= []) (b:=q3.loopAt 2) (nt:=Try.f3.ntmps) (id:=2) (σ:=Unit) (n:=(fU es l).length) (Inv:=fun k _ M1=>Ext M0 M1/\aB M1/\M1.get sb=some ⟨(bR n (fU es l) (k)).map Value.bool,4,1,0,true⟩)
  (F:=fun k _=> [(7,pt q 0),(8,pt x 0),(9,i64 i),(10,.slice la l.length lc),(11,aC sb 0 n (n+1)),(12,i64 ((k:Nat):Int))]) (O:=fun _=> [(7,pt q 0),(8,pt x 0),(9,i64 i)])
  (by
   rintro k _ M1 hk ⟨X1,a5,a9⟩
   obtain⟨a,t1,t2⟩:=Su es l k (by omega)
   obtain⟨b1,b2⟩:=a4 a (List.mem_of_getElem? t1)
   have he:es[a.toNat]?=some es[a.toNat]:=List.getElem?_eq_getElem (by omega)
   have b3:Yb es a=es[a.toNat].t:=wJ he
   rw[b3] at t2
   generalize hb:es[a.toNat]=e at he t2
   have a6:=a7 e.t (List.mem_of_getElem? t2)
   obtain⟨lb,lo,rfl,_⟩:=cF pl (by omega)
   obtain⟨eb,eo,rfl,_⟩:=cF pq (by omega)
   have l1:=kM (P:=Try.prog) (ty:=3) pl t1 rfl bV
   have l2:bI Try.prog 3 ⟨eb,eo+(a:Int).toNat*4+1,none⟩ M0=some (i64 e.t):=rQ (P:=Try.prog) (ty:=3) pq he (j:=1) rfl bV
   have b6:=Go.Am.mD pl (by omega)
   have a2:=Go.Am.mD pq (by omega)
   have e0:0+(e.t:Int).toNat*1=e.t.toNat:=by omega
   have b8:=iX n (fU es l) k
   have b5:e.t.toNat<((bR n (fU es l) k).map Value.bool).length:=by rw[List.length_map,b8];omega
   have hf:(bR n (fU es l) k)[e.t.toNat]?=some false:=by
    have a3:=List.getElem?_eq_getElem (show e.t.toNat<(bR n (fU es l) k).length by omega)
    rw[a3]
    cases hq:(bR n (fU es l) k)[e.t.toNat] with
    |false=>rfl
    |true=>
     rw[hq] at a3
     obtain⟨u,hu,b0⟩:=(tQ a0 k e.t.toNat (by omega)).1 a3
     rw[Int.toNat_of_nonneg a6.1,<-t2] at b0
     have:=(List.getElem?_inj (by omega) b7).1 b0
     omega
   obtain⟨T1,M2,q1,q2,q3,q4,_,q6⟩:=rss q x sb eb eo es.length qc lb lo l.length lc n i k ((bR n (fU es l) k).map Value.bool) a e.t false a5 X1 a2 b6 (X1.old gq) a9 c0 a1 ⟨b1,b2⟩ a6 (by omega) (decide_eq_true (by rw[aX (by omega)];omega)) rfl (by rw[Int.toNat_natCast];exact l1) l2 (by rw[e0,List.getElem?_map,hf];rfl) (by omega)
   rw[aX (by omega)] at q2
   refine⟨(),T1,M2,q1,q2,q3,q4,?_⟩
   rw[q6,e0,fN _ _ _ b5]
   conv=>rhs;unfold bR;rw[t2]
   simp only
   rw[if_neg (by omega),List.map_set])
  (by
   rintro _ M1 ⟨X1,a5,a9⟩
   exact rssx q x sb n l.length lc i (fU es l).length la (M:=M1) pl.ln (decide_eq_false (by rw[aX (by omega)];omega)))
  (fU es l).length 0 (by omega) (s:=()) (M:=M) ⟨X0,hM,gs⟩
 exact⟨M',k1,k2,k3⟩
theorem rs0(q x qc ec rb ro rc ac ub uc db dc n i:Nat)(qa ea aa:Option Addr)(es:List E4)(rank:List Int)(arcs:List A7)(up down:List (List Int))(l0:List Int)(u0 w0 md:Int){M M0:aA}(hM:aB M)(X0:Ext M0 M)(pq:aU es (.slice qa es.length qc) M0)(d2:aU es (.slice ea es.length ec) M0)(d3:aL rank (aC rb ro n rc) M0)(b5:eN arcs (.slice aa arcs.length ac) M0)(d4:bC up (aC ub 0 n uc) M0)(d1:bC down (aC db 0 n dc) M0)(hg:GX ⟨n,es,rank,arcs,up,down⟩)(gq:M.get q=some ⟨[i64 n,.slice qa es.length qc],26,2,0,true⟩)(gx:M.get x=some ⟨[i64 (n:Int),.slice ea es.length ec,aC rb ro n rc,.slice aa arcs.length ac,aC ub 0 n uc,aC db 0 n dc],31,6,0,true⟩)(c6:jI n es)(hu:Un arcs i l0)(c9:Un arcs (i:Int).toNat l0)(hll:l0.length<=n+1)(hl1:1<=l0.length)(hn24:n<=24)(d0:pR es md u0 l0 w0)(c8:l0≠ [])(c7:(fU es l0).Nodup)(b9:(decide ((i:Int)<(arcs.length:Int)))=true): ∃T1 M',Rd Try.prog [] (q3.loopAt 0) Try.f3.ntmps (fr [(7,(pt q 0)),(8,(pt x 0)),(9,(i64 (i:Int)))]) M .normal T1 M'/\ [7,8,9].map T1.get= [some (pt q 0),some (pt x 0),some (i64 (IntKind.wrap .i64 ((i:Int)+(1:Int))))]/\Ext M0 M'/\aB M'/\M'.get q=some ⟨[i64 (n:Int),.slice qa es.length qc],26,2,0,true⟩/\M'.get x=some ⟨[i64 (n:Int),.slice ea es.length ec,aC rb ro n rc,.slice aa arcs.length ac,aC ub 0 n uc,aC db 0 n dc],31,6,0,true⟩:=by
 obtain⟨w4,N5,M6,p7,l8,e9,a3,b1,b7⟩:=aM (x:=((⟨n,es,rank,arcs,up,down⟩:IX),(i:Int))) hM con13 (⟨⟨_,_,rfl,⟨_,_,_,_,_,rfl,AP.Ext (R:=aU) d2 X0,AP.Ext (R:=aL) d3 X0,AP.Ext (R:=eN) b5 X0,AP.Ext (R:=bC) d4 X0,AP.Ext (R:=bC) d1 X0⟩,rfl⟩,hg,Int.natCast_nonneg i,l0,c9,by omega⟩)
 have a2:=a3.old gq
 have c1:=a3.old gx
 have G3:aL l0 w4 (cK [(0,M.next)] M6):=by rw[<-Pj hu];exact lY b7
 obtain⟨a1,c2,c0⟩:=aH.form G3
 subst c0
 have a0:=aH.ln G3
 have b4:=X0.trans a3
 obtain⟨a7,a4,a8,a9,c3,b6,b2⟩:=sJ (P:=Try.prog) (t:=35) (elem:=4) (z:=(.bool false)) (n:=n) b1 (by kernel_rfl) (by kernel_rfl) (by omega)
 obtain⟨a5,b0,a6,b3⟩:=Zp (M0:=M6) (AP.Ext (R:=aU) pq b4) (eO (R:=aL) G3) c6 d0 c8 c7 (by omega) a2 b2 b6 (Nat.le_of_eq a8) (by rw[show(bR n (fU es l0) 0).map Value.bool=List.replicate n (Value.bool false) from by simp [bR]];exact c3)
 have b8:=(b4).trans a6
 have c4:=a6.old a2
 have c5:=a6.old c1
 obtain⟨T1,h1,h2⟩:=Rd.told (tb:=[2]) (n:=200) (F:=[aR 5 (.slice aa arcs.length ac),aP 7,aP 10,aR 12 (.agg ⟨[i64 (n:Int),.slice ea es.length ec,aC rb ro n rc,.slice aa arcs.length ac,aC ub 0 n uc,aC db 0 n dc]⟩),bK 16 (.slice a1 l0.length c2) M6,aP 22,aO 27,aO 29,aP 30,aO 31,aO 33,aR 34 (i64 (n:Int)),aO 35,aO 37,aO 40,aO 41,aR 45 (i64 (n:Int)),bK 47 (aC a7 0 n (n+1)) a4,.blk 52 [7,8,9,10,11,12] .normal (fr [(7,(pt q 0)),(8,(pt x 0)),(9,(i64 (i:Int)))]) a5]) aG aF (fun B=>zJ (gP 13 Q13 (gS _)) 2 b0) (fun _ h=>cD h) (by kernel_rfl) (hk (lO 3 kK gx rfl) (hk (lN b5.ln) (hk (bT b9) (hq (qL 31 x 0 M (.agg ⟨[i64 (n:Int),.slice ea es.length ec,aC rb ro n rc,.slice aa arcs.length ac,aC ub 0 n uc,aC db 0 n dc]⟩)) (lA ⟨yT,uN⟩ gx rfl) (hq (qC 13 [.agg ⟨[i64 (n:Int),.slice ea es.length ec,aC rb ro n rc,.slice aa arcs.length ac,aC ub 0 n uc,aC db 0 n dc]⟩,i64 (i:Int)] M (.slice a1 l0.length c2) M6) (aJ rfl p7 l8 e9) (hk (lN a0) (hk (bF (x:=decide ((l0.length:Int)<(1:Int))) (decide_eq_false (by omega))) (hk (bF (x:=decide ((l0.length:Int)<(1:Int))) (decide_eq_false (by omega))) (hk (lN a0) (hk (bF (x:=decide ((l0.length:Int)<(1:Int))) (decide_eq_false (by omega))) (hk (bF (x:=decide ((l0.length:Int)<(1:Int))) (decide_eq_false (by omega))) (hk (lO 0 bV a2 rfl) (hk (bF (x:=decide ((l0.length:Int)<(1:Int))) (decide_eq_false (by omega))) (hk (bF (x:=decide ((l0.length:Int)<(1:Int))) (decide_eq_false (by omega))) (hk (bF (x:=decide ((l0.length:Int)<(1:Int))) (decide_eq_false (by omega))) (hk (bF (x:=decide ((l0.length:Int)>(IntKind.wrap .i64 ((n:Int)+(1:Int))))) (decide_eq_false (by rw[aX (by omega)];omega))) (hk (lO 0 bV a2 rfl) (hq (.eq (bU Try.prog 35 (i64 (n:Int)) (i64 (n:Int)) M6) (1,.val (aC a7 0 n (n+1)),a4)) (bP a9 Nat.one_ne_zero) (hq (.blk 2 (.loop (q3.loopAt 2)) Try.f3.ntmps [7,8,9,10,11,12] [some (pt q 0),some (pt x 0),some (i64 (i:Int)),some (.slice a1 l0.length c2),some (aC a7 0 n (n+1)),some (i64 0)] a4 .normal (fr [(7,(pt q 0)),(8,(pt x 0)),(9,(i64 (i:Int)))]) a5) (fP rfl) hn)))))))))))))))))))
 exact⟨T1,a5,h1,h2,b8,b3,c4,c5⟩
theorem rs0x(q x ec rb ro rc ac ub uc db dc n i:Nat)(ea aa:Option Addr)(es:List E4)(arcs:List A7){M:aA}(gx:M.get x=some ⟨[i64 (n:Int),.slice ea es.length ec,aC rb ro n rc,.slice aa arcs.length ac,aC ub 0 n uc,aC db 0 n dc],31,6,0,true⟩)(a1:eN arcs (.slice aa arcs.length ac) M)(a0:(decide ((i:Int)<(arcs.length:Int)))=false): ∃T1,Rd Try.prog [] (q3.loopAt 0) Try.f3.ntmps (fr [(7,(pt q 0)),(8,(pt x 0)),(9,(i64 (i:Int)))]) M (.exit 0) T1 M/\ [].map T1.get= []:=by
 exact Rd.told (tb:=[]) (n:=60) (F:=[aR 5 (.slice aa arcs.length ac),aP 7,aO 10]) aG aF (aI Try.prog) (fun _ _=>rfl) (by kernel_rfl) (hk (lO 3 kK gx rfl) (hk (lN a1.ln) (hk (bF a0) hn)))
theorem Zo{q x qc ec rb ro rc ac ub uc db dc n:Nat}{qa ea aa:Option Addr}{es:List E4}{rank:List Int}{arcs:List A7}{up down:List (List Int)}{M0 M:aA}(pq:aU es (.slice qa es.length qc) M0)(a8:aU es (.slice ea es.length ec) M0)(a9:aL rank (aC rb ro n rc) M0)(a2:eN arcs (.slice aa arcs.length ac) M0)(b0:bC up (aC ub 0 n uc) M0)(a7:bC down (aC db 0 n dc) M0)(hg:GX ⟨n,es,rank,arcs,up,down⟩)(hM:aB M)(X0:Ext M0 M)(gq:M.get q=some ⟨[i64 n,.slice qa es.length qc],26,2,0,true⟩)(gx:M.get x=some ⟨[i64 (n:Int),.slice ea es.length ec,aC rb ro n rc,.slice aa arcs.length ac,aC ub 0 n uc,aC db 0 n dc],31,6,0,true⟩)(a4:jI n es)(a0:n<=24)(a6: ∀(i:Nat) (x:A7),arcs[i]?=some x-> ∃G l,AF n es G arcs i x l):
  ∃M',bN Try.prog [] (q3.loopAt 0) Try.f3.ntmps (fr [(7,pt q 0),(8,pt x 0),(9,i64 ((0:Nat):Int))]) M (.exit 0) (fr []) M'/\Ext M0 M'/\aB M':=by
 have hlen:=a2.len
 obtain⟨_,M',k1,k2,k3,_⟩:=bN.for (P:=Try.prog) (GL:= []) (b:=q3.loopAt 0) (nt:=Try.f3.ntmps) (id:=0) (σ:=Unit) (n:=arcs.length) (Inv:=fun v _ M1=>Ext M0 M1/\aB M1/\M1.get q=some ⟨[i64 n,.slice qa es.length qc],26,2,0,true⟩/\M1.get x=some ⟨[i64 (n:Int),.slice ea es.length ec,aC rb ro n rc,.slice aa arcs.length ac,aC ub 0 n uc,aC db 0 n dc],31,6,0,true⟩)
  (F:=fun v _=> [(7,pt q 0),(8,pt x 0),(9,i64 ((v:Nat):Int))]) (O:=fun _=> [])
  (by
   rintro v _ M1 hv ⟨X1,a3,a5,a1⟩
   obtain⟨G,l,hF⟩:=a6 v _ (List.getElem?_eq_getElem hv)
   obtain⟨T1,M2,q1,q2,q3⟩:=rs0 q x qc ec rb ro rc ac ub uc db dc n v qa ea aa es rank arcs up down l _ _ _ a3 X1 pq a8 a9 a2 b0 a7 hg a5 a1 a4 hF.un hF.un (hF.len a4) hF.un.ne a0 hF.wk hF.ne hF.nd (decide_eq_true (by omega))
   rw[aX (by omega)] at q2
   exact⟨(),T1,M2,q1,q2,q3⟩)
  (by
   rintro _ M1 ⟨X1,a3,a5,a1⟩
   exact rs0x q x ec rb ro rc ac ub uc db dc n arcs.length ea aa es arcs (M:=M1) a1 (AP.Ext (R:=eN) a2 X1) (decide_eq_false (by omega)))
  arcs.length 0 (by omega) (s:=()) (M:=M) ⟨X0,hM,gq,gx⟩
 exact⟨M',k1,k2,k3⟩
theorem rK3:Try.f3.results= #[.tmp 6]:=by kernel_rfl
theorem w3(size:Int)(g5:Option Addr)(g6:Nat)(ns:List Int)(md:Int){M:aA}(hM:aB M)(m7:aL ns (.slice g5 ns.length g6) M): ∃v_ M',Ev Try.prog [] 3 [i64 size,.slice g5 ns.length g6,i64 md] M v_ M'/\Ext M M'/\aB M'/\v_= .bool true:=by
 obtain⟨w1,N2,M3,p4,l5,e6,E7,m6,F9⟩:=aM (x:=()) hM con9 (rfl)
 have m2:w1=(.bool true):=F9
 subst m2
 have j4:=(Ext.refl M).trans E7
 obtain⟨o3,o6,e1,n9,n5,m0,k3,i0,k4⟩:=aM (x:=(size,ns,md)) m6 con10 (⟨_,_,_,rfl,rfl,AP.Ext (R:=aL) m7 j4,rfl⟩)
 obtain⟨o5,d4,f9⟩:nT ((kN size),(wL size ns md)) o3 (cK [(0,M3.next)] e1):=lY k4
 simp only at d4 f9
 obtain⟨b0,b5,g8⟩:=aH.form f9
 subst g8
 subst d4
 have j5:=j4.trans k3
 obtain⟨c8,g0,c2,h2,m3,j2,i1⟩:=bE i0 ⟨[i64 0,eZ],26,2,0,true⟩
 have i8:=mG c2 j5
 have k5:=jH (R:=aU) f9 c2 j2
 have l7:=j5.trans j2
 obtain⟨a6,o1,h8,i6,l8,i2,n7⟩:=aZ (o:=0) (v:=(.agg ⟨[i64 ((kN size):Int),.slice b0 (wL size ns md).length b5]⟩)) (new:= [i64 ((kN size):Int),.slice b0 (wL size ns md).length b5]) l7 i8 i1 vO m3 rfl rfl (Nat.zero_le _) (Nat.le_of_ble_eq_true rfl) rfl
 have j3:=hJ (R:=aU) k5 (fun id h _=>i6 id h) (by intro id hh;simp only [bQ] at hh;omega)
 obtain⟨HS,e3⟩: ∃s,s=iG (kN size) (wL size ns md) (bW (kN size) (wL size ns md)):=⟨_,rfl⟩
 obtain⟨m8,i5,k0,k1,m9⟩:=zB (rT (vY size ns md)) (iW (vY size ns md)) (rV (vY size ns md)) (by have:=mP size;omega)
 rw[<-e3] at m8 i5 k0 k1 m9
 have ltb27M70:=aA.lt_of_get h8
 obtain⟨o4,o7,a7,o0,n6,m1,e0,i3,k6⟩:=aM (x:=((kN size),(wL size ns md))) i2 con11 (⟨⟨_,rfl,_,rfl,eO (R:=aU) j3⟩,vY size ns md,(by have:=mP size;omega)⟩)
 have n8:=e0.next
 have k7:=iM (R:=aU) j3 e0
 have j7:=e0.old h8
 have l4:qN (Sy (kN size) (wL size ns md) HS) o4 (cK [(0,a6.next)] a7):=by rw[e3];exact lY k6
 obtain⟨n0,n1,n2,n3,n4,h4,e4,d9,e5,e7,e8⟩:=l4
 replace e4:aU (wL size ns md) n0 (cK [(0,a6.next)] a7):=e4
 obtain⟨b1,b6,h0⟩:=aH.form e4
 replace d9:aL HS.rank n1 (cK [(0,a6.next)] a7):=d9
 obtain⟨o8,b7,d0⟩:=aH.form d9
 replace e5:eN HS.b.arcs n2 (cK [(0,a6.next)] a7):=e5
 obtain⟨b2,b8,h1⟩:=aH.form e5
 replace e7:bC HS.up n3 (cK [(0,a6.next)] a7):=e7
 obtain⟨b3,b9,d1⟩:=eV e7
 replace e8:bC HS.down n4 (cK [(0,a6.next)] a7):=e8
 obtain⟨b4,c0,d2⟩:=eV e8
 rw[i5] at d0
 rw[k0] at d1
 rw[k1] at d2
 subst h0 d0 h1 d1 d2
 subst h4
 obtain⟨a3,a4,g9,_⟩:=cF d9 (by rw[i5];have:=mP size;omega)
 subst g9
 have j6:=l8.trans e0
 obtain⟨c9,g1,a2,h3,m4,a9,i4⟩:=bE i3 ⟨[i64 0,eZ,eZ,eZ,eZ,eZ],31,6,0,true⟩
 have i9:=mG a2 j6
 have a8:=fL j7 a2
 have k8:=jH (R:=aU) k7 a2 a9
 have k9:=jH (R:=aU) e4 a2 a9
 have l0:=jH (R:=aL) d9 a2 a9
 have l1:=jH (R:=eN) e5 a2 a9
 have l2:=jH (R:=bC) e7 a2 a9
 have l3:=jH (R:=bC) e8 a2 a9
 have m5:=a9.old j7
 have l9:=j6.trans a9
 obtain⟨e2,o2,j8,a0,g2,d6,k2⟩:=aZ (o:=0) (v:=(.agg ⟨[i64 ((kN size):Int),.slice b1 (wL size ns md).length b6,aC a3 a4 (kN size) b7,.slice b2 HS.b.arcs.length b8,aC b3 0 (kN size) b9,aC b4 0 (kN size) c0]⟩)) (new:= [i64 ((kN size):Int),.slice b1 (wL size ns md).length b6,aC a3 a4 (kN size) b7,.slice b2 HS.b.arcs.length b8,aC b3 0 (kN size) b9,aC b4 0 (kN size) c0]) l9 i9 i4 uN m4 rfl rfl (Nat.zero_le _) (Nat.le_of_ble_eq_true rfl) rfl
 have f0:=hJ (R:=aU) k8 (fun id h _=>a0 id h) (by intro id hh;simp only [bQ] at hh;omega)
 have c3:=hJ (R:=aU) k9 (fun id h _=>a0 id h) (by intro id hh;simp only [bQ] at hh;omega)
 have c4:=hJ (R:=aL) l0 (fun id h _=>a0 id h) (by intro id hh;simp only [bQ] at hh;omega)
 have c5:=hJ (R:=eN) l1 (fun id h _=>a0 id h) (by intro id hh;simp only [bQ] at hh;omega)
 have c6:=hJ (R:=bC) l2 (fun id h _=>a0 id h) (by intro id hh;simp only [bQ] at hh;omega)
 have c7:=hJ (R:=bC) l3 (fun id h _=>a0 id h) (by intro id hh;simp only [bQ] at hh;omega)
 have h5:=(a0 _ a8).trans m5
 have j9:GX (Sy (kN size) (wL size ns md) HS):=by rw[e3];exact Qf (n:=(kN size)) (es:=(wL size ns md)) (vY size ns md) (by have:=mP size;omega)
 obtain⟨j1,l6,a5,j0,i7,g7,a1,d7,f1⟩:=aM (x:=(Sy (kN size) (wL size ns md) HS)) d6 con12 (⟨⟨_,rfl,⟨_,_,_,_,_,rfl,eO (R:=aU) c3,eO (R:=aL) c4,eO (R:=eN) c5,eO (R:=bC) c6,eO (R:=bC) c7⟩⟩,j9⟩)
 have f2:=iM (R:=aU) f0 a1
 have f4:=iM (R:=aU) c3 a1
 have f5:=iM (R:=aL) c4 a1
 have f6:=iM (R:=eN) c5 a1
 have f7:=iM (R:=bC) c6 a1
 have f8:=iM (R:=bC) c7 a1
 have h6:=a1.old h5
 have h7:=a1.old j8
 have d3:j1=(.bool true):=f1
 subst d3
 have g3:=g2.trans a1
 have h9: ∀(i:Nat) (x:A7),HS.b.arcs[i]?=some x-> ∃G l,AF (kN size) (wL size ns md) G HS.b.arcs i x l:=by rw[e3];exact Vs (vY size ns md)
 obtain⟨c1,d5,e9,d8⟩:=Zo (M0:=a5) (eO (R:=aU) f2) (eO (R:=aU) f4) (eO (R:=aL) f5) (eO (R:=eN) f6) (eO (R:=bC) f7) (eO (R:=bC) f8) j9 d7 (Ext.refl a5) h6 h7 (rT (vY size ns md)) (by have:=mP size;omega) h9
 have g4:=g3.trans e9
 exact⟨.bool true,c1,Ev.told_tmp (tb:=[0]) (n:=200) (F:=[bK 3 (.bool true) M3,bK 14 (.agg ⟨[i64 ((kN size):Int),.slice b0 (wL size ns md).length b5]⟩) e1,bK 16 (pt c8 0) g0,jJ 18 a6,aR 20 (.agg ⟨[i64 ((kN size):Int),.slice b0 (wL size ns md).length b5]⟩),bK 22 (.agg ⟨[i64 ((kN size):Int),.slice b1 (wL size ns md).length b6,aC a3 a4 (kN size) b7,.slice b2 HS.b.arcs.length b8,aC b3 0 (kN size) b9,aC b4 0 (kN size) c0]⟩) a7,bK 24 (pt c9 0) g1,jJ 26 e2,aR 28 (.agg ⟨[i64 ((kN size):Int),.slice b1 (wL size ns md).length b6,aC a3 a4 (kN size) b7,.slice b2 HS.b.arcs.length b8,aC b3 0 (kN size) b9,aC b4 0 (kN size) c0]⟩),bK 30 (.bool true) a5,.blk 36 [7,8,9] .normal (fr []) c1]) aG aF Try.func3 q3_ok (by kernel_rfl) rK3 (fun B=>zJ (gP 9 Q9 (gP 10 Q10 (gP 11 Q11 (gP 12 Q12 (gS _))))) 0 d5) (fun _ h=>cD h) (by kernel_rfl) (hq (qC 9 [] M (.bool true) M3) (aJ rfl p4 l5 e6) (hq (qC 10 [i64 size,.slice g5 ns.length g6,i64 md] M3 (.agg ⟨[i64 ((kN size):Int),.slice b0 (wL size ns md).length b5]⟩) e1) (aJ rfl n9 n5 m0) (hq (.eq (cN Try.prog 26 e1) (1,.val (pt c8 0),g0)) (bP (by rw[<-c2,<-h2];kernel_rfl) Nat.one_ne_zero) (hq (qS 26 c8 0 (.agg ⟨[i64 ((kN size):Int),.slice b0 (wL size ns md).length b5]⟩) g0 a6) (dA o1) (hq (qL 26 c8 0 a6 (.agg ⟨[i64 ((kN size):Int),.slice b0 (wL size ns md).length b5]⟩)) (lA ⟨Aw,vO⟩ h8 rfl) (hq (qC 11 [.agg ⟨[i64 ((kN size):Int),.slice b0 (wL size ns md).length b5]⟩] a6 (.agg ⟨[i64 ((kN size):Int),.slice b1 (wL size ns md).length b6,aC a3 a4 (kN size) b7,.slice b2 HS.b.arcs.length b8,aC b3 0 (kN size) b9,aC b4 0 (kN size) c0]⟩) a7) (aJ rfl o0 n6 m1) (hq (.eq (cN Try.prog 31 a7) (1,.val (pt c9 0),g1)) (bP (by rw[<-a2,<-h3];kernel_rfl) Nat.one_ne_zero) (hq (qS 31 c9 0 (.agg ⟨[i64 ((kN size):Int),.slice b1 (wL size ns md).length b6,aC a3 a4 (kN size) b7,.slice b2 HS.b.arcs.length b8,aC b3 0 (kN size) b9,aC b4 0 (kN size) c0]⟩) g1 e2) (dA o2) (hq (qL 31 c9 0 e2 (.agg ⟨[i64 ((kN size):Int),.slice b1 (wL size ns md).length b6,aC a3 a4 (kN size) b7,.slice b2 HS.b.arcs.length b8,aC b3 0 (kN size) b9,aC b4 0 (kN size) c0]⟩)) (lA ⟨yT,uN⟩ j8 rfl) (hq (qC 12 [.agg ⟨[i64 ((kN size):Int),.slice b1 (wL size ns md).length b6,aC a3 a4 (kN size) b7,.slice b2 HS.b.arcs.length b8,aC b3 0 (kN size) b9,aC b4 0 (kN size) c0]⟩] e2 (.bool true) a5) (aJ rfl j0 i7 g7) (hq (.blk 0 (.loop (q3.loopAt 0)) Try.f3.ntmps [7,8,9] [some (pt c8 0),some (pt c9 0),some (i64 0)] a5 .normal (fr []) c1) (fP rfl) hn))))))))))),g4,d8,rfl⟩
end Go.Proofs.Ytdaglldahidmbaa
