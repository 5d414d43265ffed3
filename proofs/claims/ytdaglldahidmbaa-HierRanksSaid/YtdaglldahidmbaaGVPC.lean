/-
  Package hier: each of its laws for every argument; no conditions. The last text states which.
-/
import Derived.Test.YtdaglldahidmbaaGVP4
import Derived.Test.YtdaglldahidmbaaGAmBk
import Derived.Test.YtdaglldahidmbaaGAmMk
set_option linter.unusedVariables false
set_option linter.unusedSimpArgs false
open Go Go.Am Go.Proofs
namespace Go.Proofs.Ytdaglldahidmbaa
set_option maxRecDepth 100000
theorem Vd:(Try.prog.underlying 4).map dX=some false:=by kernel_rfl
theorem dS4:(Try.prog.info? 4).map (·.size)=some 1:=by kernel_rfl
theorem r23(D E n ab bb o m c i p q w:Nat)(x:Int)(cd ce:List Value)(ad:eL){M M0:aA}(hM:aB M)(X0:Ext M0 M)(hD:M0.next<=D)(hE:M0.next<=E)(gD:M.get D=some ⟨cd,3,1,0,true⟩)(gE:M.get E=some ⟨ce,22,1,0,true⟩)(dDE:D≠E)(hadj:eJ 108 ad (pt ab 0) M0)(hok:pY ad)(cc0:(decide ((i:Int)<(m:Int)))=true)(hld0:aX Try.prog 3 ⟨bb,o+((i:Int):Int).toNat*1,none⟩ M0=some (i64 x))(hi1:0<=(((dE ad x:Nat):Int):Int)/\(((dE ad x:Nat):Int):Int)<801)(hc2:(ce)[0+(((dE ad x:Nat):Int):Int).toNat*1]?=some (aD D p q w))(hr3:q+1<w/\p+(q+1)*1<=(cd).length/\q<1073741824)(hof4:0+(((dE ad x:Nat):Int):Int).toNat*1+1<=(ce).length): ∃T1 M',Rd Try.prog [] (q52.loopAt 0) Try.f52.ntmps (fr [(1,(.func (.func 54) ⟨[.agg ⟨[i64 (n:Int),pt ab 0]⟩]⟩ ⟨[]⟩)),(5,(aD D 0 m (m+1))),(6,(aD E 0 801 802)),(18,(aD bb o m c)),(19,(i64 (m:Int))),(20,(i64 (i:Int)))]) M .normal T1 M'/\ [1,5,6,18,19,20].map T1.get= [some (.func (.func 54) ⟨[.agg ⟨[i64 (n:Int),pt ab 0]⟩]⟩ ⟨[]⟩),some (aD D 0 m (m+1)),some (aD E 0 801 802),some (aD bb o m c),some (i64 (m:Int)),some (i64 (IntKind.wrap .i64 ((i:Int)+(1:Int))))]/\Ext M0 M'/\aB M'/\M'.get D=some ⟨splice cd (p+q*1) [i64 x],3,1,0,true⟩/\M'.get E=some ⟨splice ce (0+(((dE ad x:Nat):Int):Int).toNat*1) [aD D p (q+1) w],22,1,0,true⟩/\ ∀id k,M.get id=some k->id≠D->id≠E->M'.get id=some k:=by
 obtain⟨w1,N2,M3,p4,l5,e6,E7,c6,F9⟩:=aH (x:=((n,ad),x)) hM Ud (⟨⟨_,_,rfl,⟨_,rfl,AP.Ext (R:=(eJ 108)) hadj X0⟩,rfl⟩,hok⟩)
 have c0:=E7.old gD
 have b4:=E7.old gE
 have b9:w1=(i64 ((dE ad x:Nat):Int)):=F9
 subst b9
 have b5:=X0.trans E7
 obtain⟨a6,a5,a7,a8,c1,a3,b1⟩:=bG c6 ⟨[i64 x],3,1,0,true⟩
 have c2:=a3.old c0
 have c3:=a3.old b4
 have b6:=b5.trans a3
 obtain⟨a4,c9,a9,a1,b7,b2,c7⟩:=yH (P:=Try.prog) (sT:=22) (xT:=22) (elem:=3) (w:=1) (y:=8) (cx:=2) b6 hD b1 (by kernel_rfl) (by kernel_rfl) (by kernel_rfl) (by decide) (by decide) hr3.2.2 c1 (ox:=0) (new:= [i64 x]) rfl rfl rfl c2 (Cv (n:=q*1) (k:=p) (l:=cd) (by have:=hr3.2.1;omega)) rfl rfl (Nat.zero_le _) hr3.1 hr3.2.1
 replace a9:a4.get D=some ⟨splice cd (p+q*1) [i64 x],3,1,0,true⟩:=a9
 have c4:=(a1 _ (Ne.symm dDE)).trans c3
 obtain⟨a0,d0,b0,a2,b8,b3,c8⟩:=bH (o:=0+(((dE ad x:Nat):Int):Int).toNat*1) (v:=(aD D p (q+1) w)) (new:=splice ce (0+(((dE ad x:Nat):Int):Int).toNat*1) [aD D p (q+1) w]) b7 hE b2 Lb c4 rfl rfl (Nat.zero_le _) hof4 rfl
 replace b0:a0.get E=some ⟨splice ce (0+(((dE ad x:Nat):Int):Int).toNat*1) [aD D p (q+1) w],22,1,0,true⟩:=b0
 have c5:=(a2 _ dDE).trans a9
 have hkp: ∀id k,M.get id=some k->id≠D->id≠E->a0.get id=some k:=fun id k g h_D h_E=>by
  have g:=E7.old g
  have g:=a3.old g
  have g:=((fun id h _=>a1 id h) id h_D (aA.lt_of_get g)).trans g
  have g:=((fun id h _=>a2 id h) id h_E (aA.lt_of_get g)).trans g
  exact g
 obtain⟨T1,h1,h2⟩:=Rd.told (tb:=[]) (n:=60) (F:=[aM 2,aM 4,aU 6 (i64 x),bL 14 (i64 ((dE ad x:Nat):Int)) M3,aM 26,aU 28 (aD D p q w),bL 32 (aD a6 0 1 2) a5,.at 34 (2,.val (aD D p (q+1) w),a4),aM 36,lP 38 a0]) aJ aI (fun B=>lO (gF 54 Q54 (gQ _))) (fun _ _=>rfl) (by kernel_rfl) (hk (bT cc0) (hk (qI (i:Int) m (by omega) (by simp at cc0;omega)) (hk (lD (aE X0 hld0)) (hq (qC 54 [.agg ⟨[i64 (n:Int),pt ab 0]⟩,i64 x] M (i64 ((dE ad x:Nat):Int)) M3) (aN rfl p4 l5 e6) (hk (qI ((dE ad x:Nat):Int) 801 hi1.1 hi1.2) (hq (qL 22 E (0+(((dE ad x:Nat):Int):Int).toNat*1) M3 (aD D p q w)) (iP (bW (a:=⟨E,0+(((dE ad x:Nat):Int):Int).toNat*1,none⟩) hI b4 hc2)) (hq (.eq (bE Try.prog 22 1 [(0,(i64 x))] M3) (1,.val (aD a6 0 1 2),a5)) (bZ (by rw[<-a7,<-a8];kernel_rfl) Nat.one_ne_zero) (hq (.q (.append [22,22] (aD D p q w) (aD a6 0 1 2) a5) (2,.val (aD D p (q+1) w),a4)) (jD c9 (Nat.succ_ne_zero _)) (hk (qI ((dE ad x:Nat):Int) 801 hi1.1 hi1.2) (hq (qS 22 E (0+(((dE ad x:Nat):Int):Int).toNat*1) (aD D p (q+1) w) a4 a0) (eF d0) hn))))))))))
 exact⟨T1,a0,h1,h2,b8,b3,c5,b0,hkp⟩
theorem r23x(D E n ab:Nat)(a:Option Addr)(m c i:Nat){M:aA}(cc0:(decide ((i:Int)<(m:Int)))=false): ∃T1,Rd Try.prog [] (q52.loopAt 0) Try.f52.ntmps (fr [(1,(.func (.func 54) ⟨[.agg ⟨[i64 (n:Int),pt ab 0]⟩]⟩ ⟨[]⟩)),(5,(aD D 0 m (m+1))),(6,(aD E 0 801 802)),(18,(.slice a m c)),(19,(i64 (m:Int))),(20,(i64 (i:Int)))]) M (.exit 0) T1 M/\ [5].map T1.get= [some (aD D 0 m (m+1))]:=by
 exact Rd.told (tb:=[]) (n:=60) (F:=[aO 2]) aJ aI (aG Try.prog) (fun _ _=>rfl) (by kernel_rfl) (hk (bF cc0) hn)
theorem Vs{a:Option Addr}{c D E n ab:Nat}{ad:eL}{vs:List Int}{M0 M:aA}(hM:aB M)(X:Ext M0 M)(hs:aP vs (.slice a vs.length c) M0)(hadj:eJ 108 ad (pt ab 0) M0)(hok:pY ad)(hl:vs.length<=60)(hD:M0.next<=D)(hE:M0.next<=E)(dDE:D≠E)(gE:M.get E=some ⟨dG D (nV (gH ad vs)) (fun _=>0) 801,22,1,0,true⟩)(gD:M.get D=some ⟨List.replicate vs.length (i64 0),3,1,0,true⟩):
  ∃M',bJ Try.prog [] (q52.loopAt 0) Try.f52.ntmps (fr [(1,(.func (.func 54) ⟨[.agg ⟨[i64 (n:Int),pt ab 0]⟩]⟩ ⟨[]⟩)),(5,aD D 0 vs.length (vs.length+1)),(6,aD E 0 801 802),(18,.slice a vs.length c),(19,i64 vs.length),(20,i64 ((0:Nat):Int))]) M (.exit 0) (fr [(5,aD D 0 vs.length (vs.length+1))]) M'/\Ext M0 M'/\aB M'/\M'.get D=some ⟨(rB ad vs).map i64,3,1,0,true⟩:=by
 have hall:=Ff hok vs
 obtain⟨_,M',h1,h2,h3,h4,mem,h5,h6⟩:=bJ.for (P:=Try.prog) (GL:= []) (b:=q52.loopAt 0) (nt:=Try.f52.ntmps) (id:=0) (σ:=Unit) (n:=vs.length) (Inv:=fun i _ M1=>Ext M0 M1/\aB M1/\M1.get E=some ⟨dG D (nV (gH ad vs)) (iH (gX ad vs) i) 801,22,1,0,true⟩/\ ∃mem,M1.get D=some ⟨mem,3,1,0,true⟩/\Bk (nV (gH ad vs)) 801 (gX ad vs) (fun j=>i64 ((vs[j]?).getD 0)) i mem)
  (F:=fun i _=> [(1,(.func (.func 54) ⟨[.agg ⟨[i64 (n:Int),pt ab 0]⟩]⟩ ⟨[]⟩)),(5,aD D 0 vs.length (vs.length+1)),(6,aD E 0 801 802),(18,.slice a vs.length c),(19,i64 vs.length),(20,i64 ((i:Nat):Int))])
  (O:=fun _=> [(5,aD D 0 vs.length (vs.length+1))])
  (by
   rintro i _ M1 hi ⟨X1,a0,a1,mem,a2,hB⟩
   obtain⟨bb,o,rfl,_⟩:=cD hs (by omega)
   have ht:vs[i]?=some vs[i]:=List.getElem?_eq_getElem hi
   have hk:dE ad vs[i]=gX ad vs i:=by unfold gX;rw[ht];rfl
   have hle:=rX hok vs[i]
   have hkl:gX ad vs i<801:=by omega
   have hlt:iH (gX ad vs) i (gX ad vs i)<nV (gH ad vs) (gX ad vs i):=by rw[xG hkl];exact Pj (gX ad vs) hi
   have hroom:=hB.room hkl hlt
   have hc:=Aq (gX ad vs) i (gX ad vs i)
   have e0:0+(((dE ad vs[i]:Nat):Int):Int).toNat*1=gX ad vs i:=by rw[hk];simp
   obtain⟨T1,M2,h1,h2,h3,h4,h5,h6,_⟩:=r23 D E n ab bb o vs.length c i (dN (nV (gH ad vs)) (gX ad vs i)) (iH (gX ad vs) i (gX ad vs i)) (nV (gH ad vs) (gX ad vs i)+1) vs[i] _ _ ad a0 X1 hD hE a2 a1 dDE hadj hok (decide_eq_true (by omega)) (iC (P:=Try.prog) (ty:=3) hs ht rfl cO) (by omega) (by rw[e0];exact gP _ _ _ hkl) ⟨by omega,by omega,by omega⟩ (by rw[e0,fO];omega)
   rw[aY (by omega)] at h2
   rw[e0,tY D _ (gX ad vs) i 801 hkl] at h6
   have hst:=hB.step hkl hlt
   simp only [ht,Option.getD_some] at hst
   rw[show dN (nV (gH ad vs)) (gX ad vs i)+iH (gX ad vs) i (gX ad vs i)=dN (nV (gH ad vs)) (gX ad vs i)+iH (gX ad vs) i (gX ad vs i)*1 by omega] at hst
   exact⟨(),T1,M2,h1,h2,h3,h4,h6,_,h5,hst⟩)
  (by
   rintro _ M1 ⟨X1,a0,_⟩
   exact r23x D E n ab a vs.length c vs.length (M:=M1) (decide_eq_false (by omega)))
  vs.length 0 (by omega) (s:=()) (M:=M) ⟨X,hM,gE,_,gD,Bk.zero (by rw[hall];simp)⟩
 refine⟨M',h1,h2,h3,?_⟩
 rw[h5,Ok h6]
theorem rK52:Try.f52.results= #[.tmp 4]:=by kernel_rfl
theorem w23(n ab:Nat)(ad:eL)(av:Option Addr)(cv:Nat)(vs:List Int){M:aA}(hM:aB M)(hvs:aP vs (.slice av vs.length cv) M)(hadj:eJ 108 ad (pt ab 0) M)(hok:pY ad)(hl60:vs.length<=60): ∃v_ M',Ev Try.prog [] 52 [.slice av vs.length cv,.func (.func 54) ⟨[.agg ⟨[i64 (n:Int),pt ab 0]⟩]⟩ ⟨[]⟩] M v_ M'/\Ext M M'/\aB M'/\fG aP (rB ad vs) M.next v_ M':=by
 obtain⟨b1,M2,c7,c8,g5,E6,d1⟩:=yW (P:=Try.prog) (t:=22) (elem:=3) (z:=(i64 0)) (n:=vs.length) hM (by kernel_rfl) (by kernel_rfl) (by omega)
 have c0:M.next<=b1:=by rw[<-c7];exact(Ext.refl M).next
 have X8:=(Ext.refl M).trans E6
 obtain⟨d6,d7,a4,d4,d2,c5,b6,b3,c1⟩:=aH (x:=(vs,n,ad)) d1 aAg (⟨⟨_,_,rfl,AP.Ext (R:=aP) hvs X8,_,rfl,_,rfl,AP.Ext (R:=(eJ 108)) hadj X8⟩,hok,hl60⟩)
 have a6:=b6.old g5
 have b8:tW (gH ad vs) d6 (bP [(0,M2.next)] a4):=lI c1
 obtain⟨a9,b0,a1⟩:=aK.form (l:=(gH ad vs).map fun k=>((k:Nat):Int)) b8
 rw[List.length_map,rD] at a1
 subst a1
 have b9:=X8.trans b6
 have ltb1M27:=aA.lt_of_get a6
 obtain⟨Zb,d8,a7,d5,d3,c6,b7,b4,c2⟩:=aH (x:=((b1,vs.length),gH ad vs)) b3 Ug (⟨⟨_,_,rfl,⟨rfl,_,a6⟩,eI (R:=tW) b8⟩,by rw[rD];exact Nat.le_refl _,by rw[rD,Ff hok];exact Nat.le_refl _,hl60⟩)
 have c9:=b7.old a6
 obtain⟨a5,a2,a0,a3⟩:=c2
 simp only [id,rD] at a2 a3
 subst a2
 have db1b24:b1≠a5:=by have:=aA.lt_of_get a6;omega
 have a0:=Nat.le_trans (b9).next a0
 have c3:=b9.trans b7
 obtain⟨a8,b2,c4,b5,d0⟩:=Vs b4 c3 hvs hadj hok hl60 c0 a0 db1b24 a3 c9
 exact⟨aD b1 0 vs.length (vs.length+1),a8,Ev.told_tmp (tb:=[0]) (n:=60) (F:=[aM 5,bL 7 (aD b1 0 vs.length (vs.length+1)) M2,bL 17 (.slice a9 801 b0) a4,bL 19 (aD a5 0 801 802) a7,aM 25,.blk 28 [1,5,6,18,19,20] .normal (fr [(5,(aD b1 0 vs.length (vs.length+1)))]) a8]) aJ aI Try.func52 Xo (by kernel_rfl) rK52 (fun B=>zN (gF 74 Q74 (gF 75 Q75 (gQ _))) 0 b2) (fun _ h=>cF h) (by kernel_rfl) (hk (lN hvs.ln) (hq (.eq (cB Try.prog 22 (i64 (vs.length:Int)) (i64 (vs.length:Int)) M) (1,.val (aD b1 0 vs.length (vs.length+1)),M2)) (bZ c8 Nat.one_ne_zero) (hq (qC 75 [.slice av vs.length cv,.func (.func 54) ⟨[.agg ⟨[i64 (n:Int),pt ab 0]⟩]⟩ ⟨[]⟩] M2 (.slice a9 801 b0) a4) (aN rfl d4 d2 c5) (hq (qC 74 [aD b1 0 vs.length (vs.length+1),.slice a9 801 b0] a4 (aD a5 0 801 802) a7) (aN rfl d5 d3 c6) (hk (lN hvs.ln) (hq (.blk 0 (.loop (q52.loopAt 0)) Try.f52.ntmps [1,5,6,18,19,20] [some (.func (.func 54) ⟨[.agg ⟨[i64 (n:Int),pt ab 0]⟩]⟩ ⟨[]⟩),some (aD b1 0 vs.length (vs.length+1)),some (aD a5 0 801 802),some (.slice av vs.length cv),some (i64 (vs.length:Int)),some (i64 0)] a7 .normal (fr [(5,(aD b1 0 vs.length (vs.length+1)))]) a8) (fH rfl) hn)))))),c4,b5,aK.of_blk' (b:=b1) (w:=1) (g:=Lg) (iZ c0 d0) (zE hok vs) (vX _).symm (fun _ _=>rfl) (by rw[zE hok];omega)⟩
abbrev Q52:=FC (iG (mG aP (Cf 54 108)) fun x=>pY x.2.2/\x.1.length<=60) (fG aP) (fun x=>rB x.2.2 x.1)
theorem aAc{x:List Int×Nat×eL}{lv:List Value}{M:aA}(hM:aB M)(h:(iG (mG aP (Cf 54 108)) fun x:List Int×Nat×eL=>pY x.2.2/\x.1.length<=60) x lv M): ∃v M',lQ Try.prog [] 52 Q52 lv M v M':=by
 refine FC.con h ?_
 obtain⟨⟨g0,g1,rfl,k0,k1⟩,hok,hl⟩:=h
 obtain⟨vs,n,ad⟩:=x
 obtain⟨av,cv,rfl⟩:=aK.form k0
 obtain⟨s,rfl,p,rfl,hadj⟩:=k1
 obtain⟨ab,o,i_,t,s,rfl,gab,hout,hinn,hto,hset⟩:=id hadj
 obtain⟨v',M',h1,h2,_,h3⟩:=w23 n ab ad av cv vs hM k0 hadj hok hl
 exact⟨v',M',h1,h2,h3⟩
theorem rK23:Try.f23.results= #[.tmp 2]:=by kernel_rfl
theorem Kb(n:Nat)(al:Option Addr)(cl:Nat)(l:List E4){M:aA}(hM:aB M)(hl:aV l (.slice al l.length cl) M)(hck:eP (n:Int) l=true)(hok:pY (iQ n l))(hn60:n<=60): ∃v_ M',Ev Try.prog [] 23 [.agg ⟨[i64 (n:Int),.slice al l.length cl]⟩] M v_ M'/\Ext M M'/\aB M'/\fG aP (cR n l) M.next v_ M':=by
 obtain⟨b1,M2,g3,g4,g5,E6,g7⟩:=bG hM ⟨[i64 (n:Int),.slice al l.length cl],26,2,0,true⟩
 have X9:=(Ext.refl M).trans E6
 have ltb1M15:=aA.lt_of_get g5
 obtain⟨Kb,i3,b3,h3,g8,g2,d9,c7,f1⟩:=aH (x:=(n,l)) g7 aAb (⟨⟨_,rfl,_,rfl,AP.Ext (R:=aV) hl X9⟩,hck⟩)
 have h1:=d9.next
 obtain⟨i6,b2,b8⟩:mD 108 (n,iQ n l) Kb (bP [(0,M2.next)] b3):=lI f1
 simp only at b2 b8
 obtain⟨a1,_,_,_,_,c4,_⟩:=id b8
 subst c4
 subst b2
 have e4:=X9.trans d9
 obtain⟨a5,b9,a8,c3,g6,e0,c8⟩:=bG c7 ⟨[i64 0,.pointer none],77,2,0,true⟩
 have d8:M.next<=a5:=by rw[<-a8];exact e4.next
 have f2:=iB (R:=(eJ 108)) b8 a8 e0
 have f9:=e4.trans e0
 obtain⟨a0,h6,b6,d4,b0,c9,h2⟩:=bH (o:=0) (v:=(.agg ⟨[i64 (n:Int),pt a1 0]⟩)) (new:= [i64 (n:Int),pt a1 0]) f9 d8 c8 Di g6 rfl rfl (Nat.zero_le _) (Nat.le_of_ble_eq_true rfl) rfl
 replace b6:a0.get a5=some ⟨[i64 (n:Int),pt a1 0],77,2,0,true⟩:=b6
 have f3:=gO (R:=(eJ 108)) f2 (fun id h _=>d4 id h) (by intro id hh;simp only [bN] at hh;omega)
 obtain⟨a7,a4⟩: ∃m:aA,m=aA.mk a0.blks a0.next a0.hide []:=⟨_,rfl⟩
 have g0:Ext (aA.mk M.blks M.next M.hide []) a7:=by rw[a4];exact Ext.aside (b0)
 have d5:a7.log= []:=by rw[a4]
 have d0:aB a7:=by rw[a4];exact aB.log c9
 have ltb25M36:a5<a0.next:=by have h:=aA.lt_of_get b6;exact h
 have e8:a7.get a5=some ⟨[i64 (n:Int),pt a1 0],77,2,0,true⟩:=by rw[a4];exact b6
 have e1:=eM (R:=(eJ 108)) (M':=a7) f3 (fun id b h=>by rw[a4];exact h)
 obtain⟨w56,i4,a2,h4,g9,e6,b7,d1,f5⟩:=aH (x:=(n,iQ n l)) d0 aAd (⟨⟨_,rfl,_,rfl,eI (R:=eJ 108) e1⟩,hok,hn60⟩)
 have f6:=dW (R:=(eJ 108)) e1 b7
 have e9:=b7.old e8
 have e2:aP (dF (iQ n l) n) w56 (bP [(0,a7.next)] a2):=lI f5
 obtain⟨c1,c2,c5⟩:=aK.form e2
 subst c5
 have d6:a2.log= []:=by rw[<-e6];exact d5
 have c0:=g0.trans b7
 have ltb25M76:=aA.lt_of_get e9
 obtain⟨i2,i5,a3,h5,h0,e7,f0,d2,f7⟩:=aH (x:=(dF (iQ n l) n,n,iQ n l)) d1 aAc (⟨⟨_,_,rfl,eI (R:=aP) e2,_,rfl,_,rfl,eI (R:=eJ 108) f6⟩,hok,Nat.le_trans (qX (iQ n l) n) hn60⟩)
 have e3:aP (cR n l) i2 (bP [(0,a2.next)] a3):=lI f7
 obtain⟨b4,b5,c6⟩:=aK.form e3
 subst c6
 have d7:a3.log= []:=by rw[<-e7];exact d6
 have e5:=c0.trans f0
 obtain⟨a9,a6⟩: ∃m:aA,m=(aA.mk a3.blks a3.next a3.hide (a3.log++a0.log)):=⟨_,rfl⟩
 have g1:Ext M a9:=by rw[a6];exact Ext.join (b0) (e5)
 have d3:aB a9:=by rw[a6];exact d2
 have f8:=eM (R:=aP) (M':=a9) e3 (fun id b h=>by rw[a6];exact h)
 have hraw:oT Try.prog [] 60 Try.f23 q23 [.agg ⟨[i64 (n:Int),.slice al l.length cl]⟩] M [bL 1 (pt b1 0) M2,aU 5 (.agg ⟨[i64 (n:Int),.slice al l.length cl]⟩),bL 7 (.agg ⟨[i64 (n:Int),pt a1 0]⟩) b3,bL 9 (pt a5 0) b9,lP 11 a0,aU 13 (.agg ⟨[i64 (n:Int),pt a1 0]⟩),bL 15 (.slice c1 (dF (iQ n l) n).length c2) a2,aU 17 (.agg ⟨[i64 (n:Int),pt a1 0]⟩),bL 21 (.slice b4 (cR n l).length b5) a3] 2=some (.ret,some (.slice b4 (cR n l).length b5),aA.mk a3.blks a3.next a0.hide (a3.log++a0.log),[.eq (fE Try.prog 26 (.agg ⟨[i64 (n:Int),.slice al l.length cl]⟩) M) (1,.val (pt b1 0),M2),qL 26 b1 0 M2 (.agg ⟨[i64 (n:Int),.slice al l.length cl]⟩),qC 51 [.agg ⟨[i64 (n:Int),.slice al l.length cl]⟩] M2 (.agg ⟨[i64 (n:Int),pt a1 0]⟩) b3,.eq (dL Try.prog 77 b3) (1,.val (pt a5 0),b9),qS 77 a5 0 (.agg ⟨[i64 (n:Int),pt a1 0]⟩) b9 a0,qL 77 a5 0 (aA.mk a0.blks a0.next a0.hide []) (.agg ⟨[i64 (n:Int),pt a1 0]⟩),qC 53 [.agg ⟨[i64 (n:Int),pt a1 0]⟩] (aA.mk a0.blks a0.next a0.hide []) (.slice c1 (dF (iQ n l) n).length c2) a2,qL 77 a5 0 (aA.mk a2.blks a2.next (aS 0 [⟨1,1,a0.next,a2.next⟩,⟨0,1,a0.next,a0.next⟩]++a0.hide) a2.log) (.agg ⟨[i64 (n:Int),pt a1 0]⟩),qT (Nat.blt a5 a0.next),qC 52 [.slice c1 (dF (iQ n l) n).length c2,.func (.func 54) ⟨[.agg ⟨[i64 (n:Int),pt a1 0]⟩]⟩ ⟨[]⟩] (aA.mk a2.blks a2.next a0.hide a2.log) (.slice b4 (cR n l).length b5) a3,qT (cQ [a5] a3.log)]):=by kernel_rfl
 have h7:aA.mk a0.blks a0.next a0.hide []=a7:=a4.symm
 have h8:aA.mk a2.blks a2.next a0.hide a2.log=a2:=by rw[(show a0.hide=a2.hide from((b0).hide.trans (c0).hide.symm))]
 have h9:aA.mk a2.blks a2.next (aS 0 [⟨1,1,a0.next,a2.next⟩,⟨0,1,a0.next,a0.next⟩]++a0.hide) a2.log=bP (aS 0 [⟨1,1,a0.next,a2.next⟩,⟨0,1,a0.next,a0.next⟩]) a2:=by rw[(show a0.hide=a2.hide from((b0).hide.trans (c0).hide.symm))];rfl
 have i0:(aA.mk a3.blks a3.next a0.hide (a3.log++a0.log))=(aA.mk a3.blks a3.next a3.hide (a3.log++a0.log)):=by rw[(show a0.hide=a3.hide from((b0).hide.trans (e5).hide.symm))]
 have i1:(aA.mk a3.blks a3.next a3.hide (a3.log++a0.log))=a9:=a6.symm
 try rw[h7] at hraw
 try rw[h8] at hraw
 try rw[h9] at hraw
 try rw[i0] at hraw
 try rw[i1] at hraw
 exact⟨.slice b4 (cR n l).length b5,a9,Ev.told_tmp aJ aI Try.func23 Xd (by kernel_rfl) rK23 (fun B=>lO (gF 51 Q51 (gF 52 Q52 (gF 53 Q53 (gQ _))))) (fun _ _=>rfl) hraw (hk (bZ (by rw[<-g3,<-g4];kernel_rfl) Nat.one_ne_zero) (hk (lA ⟨rW,pS⟩ g5 rfl) (hk (aN rfl h3 g8 g2) (hk (bZ (by rw[<-a8,<-c3];kernel_rfl) Nat.one_ne_zero) (hk (eF h6) (hk (lA ⟨La,Di⟩ e8 rfl) (hk (aN rfl h4 g9 e6) (hk (lA ⟨La,Di⟩ (bS.2 ⟨cY (by simp;omega),e9⟩) rfl) (hk (mE ltb25M36) (hk (aN rfl h5 h0 e7) (hk (dZ (by rw[d7];simp<;>omega)) hn))))))))))),g1,d3,El (R:=aP) f8 (by intro id hh;simp only [bN] at hh;omega)⟩
abbrev Q23:=FC (iG (tL jC) fun x=>eP (x.1:Int) x.2=true) (fG aP) (fun x=>cR x.1 x.2)
theorem Zw{x:Nat×List E4}{lv:List Value}{M:aA}(hM:aB M)(h:(iG (tL jC) fun x:Nat×List E4=>eP (x.1:Int) x.2=true) x lv M): ∃v M',lQ Try.prog [] 23 Q23 lv M v M':=by
 refine FC.con h ?_
 obtain⟨⟨g0,rfl,k0⟩,hck⟩:=h
 obtain⟨n,l⟩:=x
 obtain⟨_,rfl,hl⟩:=k0
 obtain⟨a,c,rfl⟩:=aK.form hl
 obtain⟨v,M',h1,h2,_,h3⟩:=Kb n a c l hM hl hck (Jg hck) (by have:=(eZ hck).2.1;simp only at this⊢;omega)
 exact⟨v,M',h1,h2,h3⟩
theorem rK31:Try.f31.results= #[.tmp 2]:=by kernel_rfl
theorem w15(n:Nat)(al:Option Addr)(cl:Nat)(l:List E4){M:aA}(hM:aB M)(hl:aV l (.slice al l.length cl) M): ∃v_ M',Ev Try.prog [] 31 [.agg ⟨[i64 (n:Int),.slice al l.length cl]⟩] M v_ M'/\Ext M M'/\aB M'/\eD 87 (n,l) v_ M'/\ ∃b,v_=pt b 0/\M.next<=b:=by
 obtain⟨b1,M2,a8,a9,g5,E6,b2⟩:=bG hM ⟨[i64 (n:Int),.slice al l.length cl],26,2,0,true⟩
 have X9:=(Ext.refl M).trans E6
 obtain⟨a0,a2,a1,a3,b0,a7,a4⟩:=bG b2 ⟨[i64 (n:Int),.slice al l.length cl],87,2,0,true⟩
 have a5:M.next<=a0:=by rw[<-a1];exact X9.next
 have a6:=X9.trans a7
 exact⟨pt a0 0,a2,Ev.told_tmp (tb:=[]) (n:=60) (F:=[bL 1 (pt b1 0) M2,aU 5 (.agg ⟨[i64 (n:Int),.slice al l.length cl]⟩),bL 9 (pt a0 0) a2]) aJ aI Try.func31 Xg (by kernel_rfl) rK31 (aG Try.prog) (fun _ _=>rfl) (by kernel_rfl) (hq (.eq (fE Try.prog 26 (.agg ⟨[i64 (n:Int),.slice al l.length cl]⟩) M) (1,.val (pt b1 0),M2)) (bZ (by rw[<-a8,<-a9];kernel_rfl) Nat.one_ne_zero) (hq (qL 26 b1 0 M2 (.agg ⟨[i64 (n:Int),.slice al l.length cl]⟩)) (lA ⟨rW,pS⟩ g5 rfl) (hq (.eq (fE Try.prog 87 (.agg ⟨[i64 (n:Int),.slice al l.length cl]⟩) M2) (1,.val (pt a0 0),a2)) (bZ (by rw[<-a1,<-a3];kernel_rfl) Nat.one_ne_zero) hn))),a6,a4,⟨a0,_,rfl,b0,AP.Ext (R:=aV) hl a6⟩,a0,rfl,a5⟩
abbrev Q31:=FC (tL jC) (plain (eD 87)) id
theorem Tx{x:Nat×List E4}{lv:List Value}{M:aA}(hM:aB M)(h:(tL jC) x lv M): ∃v M',lQ Try.prog [] 31 Q31 lv M v M':=by
 refine FC.con h ?_
 obtain⟨g0,rfl,k0⟩:=h
 obtain⟨n,l⟩:=x
 obtain⟨_,rfl,hl⟩:=k0
 obtain⟨a,c,rfl⟩:=aK.form hl
 obtain⟨v,M',h1,h2,_,h3,_⟩:=w15 n a c l hM hl
 exact⟨v,M',h1,h2,h3⟩
theorem r16L(rb bb o m c i:Nat)(v:Int)(S vn:Value)(e:E4){M:aA}{M0:aA}(X0:Ext M0 M)(grb:M.get rb=some ⟨[vn,aD bb o m c],87,2,0,true⟩)(cc0:(decide ((i:Int)<(m:Int)))=true)(cc1:(e.f==v)=false)(hld0:aX Try.prog 3 ⟨bb,o+((i:Int):Int).toNat*4,none⟩ M0=some (i64 e.f)): ∃T1,Rd Try.prog [] (q33.loopAt 0) Try.f33.ntmps (fr [(0,(pt rb 0)),(1,(i64 v)),(5,S),(6,(i64 (i:Int)))]) M .normal T1 M/\ [0,1,5,6].map T1.get= [some (pt rb 0),some (i64 v),some S,some (i64 (IntKind.wrap .i64 ((i:Int)+(1:Int))))]:=by
 exact Rd.told (tb:=[]) (n:=60) (F:=[aU 11 (aD bb o m c),aM 16,aU 26 (aD bb o m c),aM 30,aU 34 (i64 e.f),aO 39]) aJ aI (aG Try.prog) (fun _ _=>rfl) (by kernel_rfl) (hk (lC (o:=1) cP grb rfl) (hk (bT cc0) (hk (lC (o:=1) cP grb rfl) (hk (qI (i:Int) m (by omega) (by simp at cc0;omega)) (hk (lD (aE X0 hld0)) (hk (bF cc1) hn))))))
theorem r16N(rb bb o m c i:Nat)(v:Int)(vn:Value)(e:E4){M M0:aA}(hM:aB M)(X0:Ext M0 M)(grb:M.get rb=some ⟨[vn,aD bb o m c],87,2,0,true⟩)(cc0:(decide ((i:Int)<(m:Int)))=true)(cc1:(e.f==v)=true)(hld0:aX Try.prog 3 ⟨bb,o+((i:Int):Int).toNat*4,none⟩ M0=some (i64 e.f)): ∃T1 M' b11,Rd Try.prog [] (q33.loopAt 0) Try.f33.ntmps (fr [(0,(pt rb 0)),(1,(i64 v)),(5,cI),(6,(i64 (i:Int)))]) M .normal T1 M'/\ [0,1,5,6].map T1.get= [some (pt rb 0),some (i64 v),some (aD b11 0 1 1),some (i64 (IntKind.wrap .i64 ((i:Int)+(1:Int))))]/\Ext M0 M'/\aB M'/\M'.get rb=some ⟨[vn,aD bb o m c],87,2,0,true⟩/\M0.next<=b11/\M'.get b11=some ⟨[i64 (i:Int)],3,1,0,true⟩/\ ∀id k,M.get id=some k->id≠rb->M'.get id=some k:=by
 obtain⟨b1,M2,a8,a9,g5,E6,b3⟩:=bG hM ⟨[i64 (i:Int)],3,1,0,true⟩
 have g8:=E6.old grb
 have a6:=X0.trans E6
 obtain⟨b11,a1,a0,a3,b0,a2,a4⟩:=bG b3 ⟨[i64 (i:Int)],3,1,0,true⟩
 have a5:M0.next<=b11:=by rw[<-a0];exact a6.next
 have b2:=a2.old g8
 have a7:=a6.trans a2
 have hkp: ∀id k,M.get id=some k->id≠rb->a1.get id=some k:=fun id k g h_rb=>by
  have g:=E6.old g
  have g:=a2.old g
  exact g
 obtain⟨T1,h1,h2⟩:=Rd.told (tb:=[]) (n:=60) (F:=[aU 11 (aD bb o m c),aM 16,aU 26 (aD bb o m c),aM 30,aU 34 (i64 e.f),aM 39,bL 45 (aD b1 0 1 2) M2,.at 47 (1,.val (aD b11 0 1 1),a1)]) aJ aI (aG Try.prog) (fun _ _=>rfl) (by kernel_rfl) (hk (lC (o:=1) cP grb rfl) (hk (bT cc0) (hk (lC (o:=1) cP grb rfl) (hk (qI (i:Int) m (by omega) (by simp at cc0;omega)) (hk (lD (aE X0 hld0)) (hk (bT cc1) (hq (.eq (bE Try.prog 22 1 [(0,(i64 (i:Int)))] M) (1,.val (aD b1 0 1 2),M2)) (bZ (by rw[<-a8,<-a9];kernel_rfl) Nat.one_ne_zero) (hq (.q (.append [22,22] cI (aD b1 0 1 2) M2) (1,.val (aD b11 0 1 1),a1)) (jD (by rw[<-a0,<-a3];exact append_nil (w:=1) (by kernel_rfl) (by kernel_rfl) (y:=8) (by kernel_rfl) (by decide) (by decide) g5 rfl rfl rfl) Nat.one_ne_zero) hn))))))))
 exact⟨T1,a1,b11,h1,h2,a7,a4,b2,a5,b0,hkp⟩
theorem r16G(rb bb o m c i:Nat)(v:Int)(vn:Value)(e:E4)(r k:Nat)(cr:List Value){M M0:aA}(hM:aB M)(X0:Ext M0 M)(grb:M.get rb=some ⟨[vn,aD bb o m c],87,2,0,true⟩)(hr:M0.next<=r)(gr:M.get r=some ⟨cr,3,1,0,true⟩)(hbr:rb≠r)(cc0:(decide ((i:Int)<(m:Int)))=true)(cc1:(e.f==v)=true)(hld0:aX Try.prog 3 ⟨bb,o+((i:Int):Int).toNat*4,none⟩ M0=some (i64 e.f))(hg1:k<1073741824/\(cr).length=k*1): ∃T1 M' b14,Rd Try.prog [] (q33.loopAt 0) Try.f33.ntmps (fr [(0,(pt rb 0)),(1,(i64 v)),(5,(aD r 0 k k)),(6,(i64 (i:Int)))]) M .normal T1 M'/\ [0,1,5,6].map T1.get= [some (pt rb 0),some (i64 v),some (aD b14 0 (k+1) (k+1)),some (i64 (IntKind.wrap .i64 ((i:Int)+(1:Int))))]/\Ext M0 M'/\aB M'/\M'.get rb=some ⟨[vn,aD bb o m c],87,2,0,true⟩/\M0.next<=b14/\M'.get b14=some ⟨cr++ [i64 (i:Int)],3,1,0,true⟩/\ ∀id k,M.get id=some k->id≠rb->id≠r->M'.get id=some k:=by
 obtain⟨b1,M2,a8,a9,g5,E6,b3⟩:=bG hM ⟨[i64 (i:Int)],3,1,0,true⟩
 have g8:=E6.old grb
 have g9:=E6.old gr
 have a6:=X0.trans E6
 obtain⟨b14,a2,a0,a3,b0,a7,a4,a1⟩:=rZ a6 hr b3 ⟨cr++ [i64 (i:Int)],3,1,0,true⟩
 have a5:M0.next<=b14:=by rw[<-a0];exact a6.next
 have b2:=(a1 _ hbr (aA.lt_of_get g8)).trans g8
 have hkp: ∀id k,M.get id=some k->id≠rb->id≠r->a2.get id=some k:=fun id k g h_rb h_r=>by
  have g:=E6.old g
  have g:=(a1 id h_r (aA.lt_of_get g)).trans g
  exact g
 obtain⟨T1,h1,h2⟩:=Rd.told (tb:=[]) (n:=60) (F:=[aU 11 (aD bb o m c),aM 16,aU 26 (aD bb o m c),aM 30,aU 34 (i64 e.f),aM 39,bL 45 (aD b1 0 1 2) M2,.at 47 (2,.val (aD b14 0 (k+1) (k+1)),a2)]) aJ aI (aG Try.prog) (fun _ _=>rfl) (by kernel_rfl) (hk (lC (o:=1) cP grb rfl) (hk (bT cc0) (hk (lC (o:=1) cP grb rfl) (hk (qI (i:Int) m (by omega) (by simp at cc0;omega)) (hk (lD (aE X0 hld0)) (hk (bT cc1) (hq (.eq (bE Try.prog 22 1 [(0,(i64 (i:Int)))] M) (1,.val (aD b1 0 1 2),M2)) (bZ (by rw[<-a8,<-a9];kernel_rfl) Nat.one_ne_zero) (hq (.q (.append [22,22] (aD r 0 k k) (aD b1 0 1 2) M2) (2,.val (aD b14 0 (k+1) (k+1)),a2)) (jD (by rw[<-a0,<-a3];exact jJ (w:=1) (by kernel_rfl) (by kernel_rfl) (by kernel_rfl) (y:=8) (by kernel_rfl) (by decide) (by decide) hg1.1 g5 rfl rfl rfl g9 hg1.2 rfl rfl rfl rfl) (Nat.succ_ne_zero _)) hn))))))))
 exact⟨T1,a2,b14,h1,h2,a7,a4,b2,a5,b0,hkp⟩
theorem r16x(rb:Nat)(a:Option Addr)(m c i:Nat)(v:Int)(S vn:Value){M:aA}(grb:M.get rb=some ⟨[vn,.slice a m c],87,2,0,true⟩)(hln:a.isNone=true->m=0/\c=0)(cc0:(decide ((i:Int)<(m:Int)))=false): ∃T1,Rd Try.prog [] (q33.loopAt 0) Try.f33.ntmps (fr [(0,(pt rb 0)),(1,(i64 v)),(5,S),(6,(i64 (i:Int)))]) M (.exit 0) T1 M/\ [5].map T1.get= [some S]:=by
 exact Rd.told (tb:=[]) (n:=60) (F:=[aU 11 (.slice a m c),aM 13,aO 16]) aJ aI (aG Try.prog) (fun _ _=>rfl) (by kernel_rfl) (hk (lC (o:=1) cP grb rfl) (hk (lN hln) (hk (bF cc0) hn)))
theorem Vp{rb n:Nat}{a:Option Addr}{c:Nat}{v:Int}{l:List E4}{M:aA}(hM:aB M)(grb:M.get rb=some ⟨[i64 n,.slice a l.length c],87,2,0,true⟩)(hs:aV l (.slice a l.length c) M)(hl:l.length<=400):
  ∃S M',bJ Try.prog [] (q33.loopAt 0) Try.f33.ntmps (fr [(0,pt rb 0),(1,i64 v),(5,cI),(6,i64 ((0:Nat):Int))]) M (.exit 0) (fr [(5,S)]) M'/\Ext M M'/\aB M'/\oN M M' S (bQ .fr l v l.length):=by
 have hb:=aA.lt_of_get grb
 obtain⟨S,M',h1,h2,h3,_,h4⟩:=bJ.for (P:=Try.prog) (GL:= []) (b:=q33.loopAt 0) (nt:=Try.f33.ntmps) (id:=0) (σ:=Value) (n:=l.length) (Inv:=fun i S M1=>Ext M M1/\aB M1/\M1.get rb=some ⟨[i64 n,.slice a l.length c],87,2,0,true⟩/\oN M M1 S (bQ .fr l v i))
  (F:=fun i S=> [(0,pt rb 0),(1,i64 v),(5,S),(6,i64 ((i:Nat):Int))])
  (O:=fun S=> [(5,S)])
  (by
   rintro i S M1 hi ⟨X1,a1,a0,hA⟩
   obtain⟨bb,o,rfl,_⟩:=cD hs (by omega)
   have ht:l[i]?=some l[i]:=List.getElem?_eq_getElem hi
   have hld:aX Try.prog 3 ⟨bb,o+((i:Int):Int).toNat*4,none⟩ M=some (i64 l[i].f):=iL (P:=Try.prog) (j:=0) hs ht rfl cO
   rw[sJ .fr v ht]
   have hlen:=jP .fr l v i
   by_cases hv:l[i].f=v
   ·rw[if_pos (show dB .fr l[i]=v from hv)]
    rcases hA with⟨rfl,h0⟩|⟨r,rfl,h0,hr,hg⟩
    ·obtain⟨T1,M2,b2,h1,h2,h3,h4,h5,h6,h7,_⟩:=r16N rb bb o l.length c i v _ l[i] a1 X1 a0 (decide_eq_true (by omega)) (by simp [hv]) hld
     rw[aY (by omega)] at h2
     exact⟨_,T1,M2,h1,h2,h3,h4,h5,.inr ⟨b2,by rw[h0];rfl,by simp,h6,by rw[h7,h0];rfl⟩⟩
    ·obtain⟨T1,M2,b2,h1,h2,h3,h4,h5,h6,h7,_⟩:=r16G rb bb o l.length c i v _ l[i] r (bQ .fr l v i).length _ a1 X1 a0 hr hg (by omega) (decide_eq_true (by omega)) (by simp [hv]) hld ⟨by omega,by simp⟩
     rw[aY (by omega)] at h2
     exact⟨_,T1,M2,h1,h2,h3,h4,h5,.inr ⟨b2,by rw[List.length_append];rfl,by simp,h6,by rw[h7,List.map_append];rfl⟩⟩
   ·rw[if_neg (show¬dB .fr l[i]=v from hv),List.append_nil]
    obtain⟨T1,h1,h2⟩:=r16L rb bb o l.length c i v S _ l[i] X1 a0 (decide_eq_true (by omega)) (by simp [hv]) hld
    rw[aY (by omega)] at h2
    exact⟨S,T1,M1,h1,h2,X1,a1,a0,hA⟩)
  (by
   rintro S M1 ⟨X1,a1,a0,_⟩
   exact r16x rb a l.length c l.length v S _ a0 hs.ln (decide_eq_false (by omega)))
  l.length 0 (by omega) (s:=cI) (M:=M) ⟨Ext.refl M,hM,grb,.inl ⟨rfl,rfl⟩⟩
 exact⟨S,M',h1,h2,h3,h4⟩
theorem rK33:Try.f33.results= #[.tmp 4]:=by kernel_rfl
theorem w16(rb n:Nat)(al:Option Addr)(cl:Nat)(l:List E4)(v:Int){M:aA}(hM:aB M)(grb:M.get rb=some ⟨[i64 n,.slice al l.length cl],87,2,0,true⟩)(hl:aV l (.slice al l.length cl) M)(hl400:l.length<=400): ∃v_ M',Ev Try.prog [] 33 [pt rb 0,i64 v] M v_ M'/\Ext M M'/\aB M'/\fG aP (bQ .fr l v l.length) M.next v_ M':=by
 obtain⟨S1,M3,a0,E5,a1,A2⟩:=Vp hM grb (AP.Ext (R:=aV) hl (Ext.refl M)) hl400
 have X9:=(Ext.refl M).trans E5
 exact⟨S1,M3,Ev.told_tmp (tb:=[0]) (n:=60) (F:=[.blk 6 [0,1,5,6] .normal (fr [(5,S1)]) M3]) aJ aI Try.func33 Xi (by kernel_rfl) rK33 (fun B=>zN (gQ B) 0 a0) (fun _ h=>cF h) (by kernel_rfl) (hq (.blk 0 (.loop (q33.loopAt 0)) Try.f33.ntmps [0,1,5,6] [some (pt rb 0),some (i64 v),some cI,some (i64 0)] M .normal (fr [(5,S1)]) M3) (fH rfl) hn),X9,a1,oN.new A2 (Nat.le_trans (jP .fr l v l.length) (by omega)) (Nat.le_refl _)⟩
abbrev Q33:=FC (iG (mG (eD 87) pI) fun x=>x.1.2.length<=400) (fG aP) (fun x=>bQ .fr x.1.2 x.2 x.1.2.length)
theorem Pl{x:(Nat×List E4)×Int}{lv:List Value}{M:aA}(hM:aB M)(h:(iG (mG (eD 87) pI) fun x:(Nat×List E4)×Int=>x.1.2.length<=400) x lv M): ∃v M',lQ Try.prog [] 33 Q33 lv M v M':=by
 refine FC.con h ?_
 obtain⟨⟨g0,g1,rfl,k0,k1⟩,a0⟩:=h
 obtain⟨⟨n,l⟩,v⟩:=x
 obtain rfl:=k1
 obtain⟨rb,L,rfl,grb,hl⟩:=k0
 obtain⟨a,c,rfl⟩:=aK.form hl
 obtain⟨v',M',h1,h2,_,h3⟩:=w16 rb n a c l v hM grb hl a0
 exact⟨v',M',h1,h2,h3⟩
theorem r17L(rb bb o m c i:Nat)(v:Int)(S vn:Value)(e:E4){M:aA}{M0:aA}(X0:Ext M0 M)(grb:M.get rb=some ⟨[vn,aD bb o m c],87,2,0,true⟩)(cc0:(decide ((i:Int)<(m:Int)))=true)(cc1:(e.t==v)=false)(hld0:aX Try.prog 3 ⟨bb,o+((i:Int):Int).toNat*4+1,none⟩ M0=some (i64 e.t)): ∃T1,Rd Try.prog [] (q34.loopAt 0) Try.f34.ntmps (fr [(0,(pt rb 0)),(1,(i64 v)),(5,S),(6,(i64 (i:Int)))]) M .normal T1 M/\ [0,1,5,6].map T1.get= [some (pt rb 0),some (i64 v),some S,some (i64 (IntKind.wrap .i64 ((i:Int)+(1:Int))))]:=by
 exact Rd.told (tb:=[]) (n:=60) (F:=[aU 11 (aD bb o m c),aM 16,aU 26 (aD bb o m c),aM 30,aU 34 (i64 e.t),aO 39]) aJ aI (aG Try.prog) (fun _ _=>rfl) (by kernel_rfl) (hk (lC (o:=1) cP grb rfl) (hk (bT cc0) (hk (lC (o:=1) cP grb rfl) (hk (qI (i:Int) m (by omega) (by simp at cc0;omega)) (hk (lD (aE X0 hld0)) (hk (bF cc1) hn))))))
theorem r17N(rb bb o m c i:Nat)(v:Int)(vn:Value)(e:E4){M M0:aA}(hM:aB M)(X0:Ext M0 M)(grb:M.get rb=some ⟨[vn,aD bb o m c],87,2,0,true⟩)(cc0:(decide ((i:Int)<(m:Int)))=true)(cc1:(e.t==v)=true)(hld0:aX Try.prog 3 ⟨bb,o+((i:Int):Int).toNat*4+1,none⟩ M0=some (i64 e.t)): ∃T1 M' b11,Rd Try.prog [] (q34.loopAt 0) Try.f34.ntmps (fr [(0,(pt rb 0)),(1,(i64 v)),(5,cI),(6,(i64 (i:Int)))]) M .normal T1 M'/\ [0,1,5,6].map T1.get= [some (pt rb 0),some (i64 v),some (aD b11 0 1 1),some (i64 (IntKind.wrap .i64 ((i:Int)+(1:Int))))]/\Ext M0 M'/\aB M'/\M'.get rb=some ⟨[vn,aD bb o m c],87,2,0,true⟩/\M0.next<=b11/\M'.get b11=some ⟨[i64 (i:Int)],3,1,0,true⟩/\ ∀id k,M.get id=some k->id≠rb->M'.get id=some k:=by
 obtain⟨b1,M2,a8,a9,g5,E6,b3⟩:=bG hM ⟨[i64 (i:Int)],3,1,0,true⟩
 have g8:=E6.old grb
 have a6:=X0.trans E6
 obtain⟨b11,a1,a0,a3,b0,a2,a4⟩:=bG b3 ⟨[i64 (i:Int)],3,1,0,true⟩
 have a5:M0.next<=b11:=by rw[<-a0];exact a6.next
 have b2:=a2.old g8
 have a7:=a6.trans a2
 have hkp: ∀id k,M.get id=some k->id≠rb->a1.get id=some k:=fun id k g h_rb=>by
  have g:=E6.old g
  have g:=a2.old g
  exact g
 obtain⟨T1,h1,h2⟩:=Rd.told (tb:=[]) (n:=60) (F:=[aU 11 (aD bb o m c),aM 16,aU 26 (aD bb o m c),aM 30,aU 34 (i64 e.t),aM 39,bL 45 (aD b1 0 1 2) M2,.at 47 (1,.val (aD b11 0 1 1),a1)]) aJ aI (aG Try.prog) (fun _ _=>rfl) (by kernel_rfl) (hk (lC (o:=1) cP grb rfl) (hk (bT cc0) (hk (lC (o:=1) cP grb rfl) (hk (qI (i:Int) m (by omega) (by simp at cc0;omega)) (hk (lD (aE X0 hld0)) (hk (bT cc1) (hq (.eq (bE Try.prog 22 1 [(0,(i64 (i:Int)))] M) (1,.val (aD b1 0 1 2),M2)) (bZ (by rw[<-a8,<-a9];kernel_rfl) Nat.one_ne_zero) (hq (.q (.append [22,22] cI (aD b1 0 1 2) M2) (1,.val (aD b11 0 1 1),a1)) (jD (by rw[<-a0,<-a3];exact append_nil (w:=1) (by kernel_rfl) (by kernel_rfl) (y:=8) (by kernel_rfl) (by decide) (by decide) g5 rfl rfl rfl) Nat.one_ne_zero) hn))))))))
 exact⟨T1,a1,b11,h1,h2,a7,a4,b2,a5,b0,hkp⟩
theorem r17G(rb bb o m c i:Nat)(v:Int)(vn:Value)(e:E4)(r k:Nat)(cr:List Value){M M0:aA}(hM:aB M)(X0:Ext M0 M)(grb:M.get rb=some ⟨[vn,aD bb o m c],87,2,0,true⟩)(hr:M0.next<=r)(gr:M.get r=some ⟨cr,3,1,0,true⟩)(hbr:rb≠r)(cc0:(decide ((i:Int)<(m:Int)))=true)(cc1:(e.t==v)=true)(hld0:aX Try.prog 3 ⟨bb,o+((i:Int):Int).toNat*4+1,none⟩ M0=some (i64 e.t))(hg1:k<1073741824/\(cr).length=k*1): ∃T1 M' b14,Rd Try.prog [] (q34.loopAt 0) Try.f34.ntmps (fr [(0,(pt rb 0)),(1,(i64 v)),(5,(aD r 0 k k)),(6,(i64 (i:Int)))]) M .normal T1 M'/\ [0,1,5,6].map T1.get= [some (pt rb 0),some (i64 v),some (aD b14 0 (k+1) (k+1)),some (i64 (IntKind.wrap .i64 ((i:Int)+(1:Int))))]/\Ext M0 M'/\aB M'/\M'.get rb=some ⟨[vn,aD bb o m c],87,2,0,true⟩/\M0.next<=b14/\M'.get b14=some ⟨cr++ [i64 (i:Int)],3,1,0,true⟩/\ ∀id k,M.get id=some k->id≠rb->id≠r->M'.get id=some k:=by
 obtain⟨b1,M2,a8,a9,g5,E6,b3⟩:=bG hM ⟨[i64 (i:Int)],3,1,0,true⟩
 have g8:=E6.old grb
 have g9:=E6.old gr
 have a6:=X0.trans E6
 obtain⟨b14,a2,a0,a3,b0,a7,a4,a1⟩:=rZ a6 hr b3 ⟨cr++ [i64 (i:Int)],3,1,0,true⟩
 have a5:M0.next<=b14:=by rw[<-a0];exact a6.next
 have b2:=(a1 _ hbr (aA.lt_of_get g8)).trans g8
 have hkp: ∀id k,M.get id=some k->id≠rb->id≠r->a2.get id=some k:=fun id k g h_rb h_r=>by
  have g:=E6.old g
  have g:=(a1 id h_r (aA.lt_of_get g)).trans g
  exact g
 obtain⟨T1,h1,h2⟩:=Rd.told (tb:=[]) (n:=60) (F:=[aU 11 (aD bb o m c),aM 16,aU 26 (aD bb o m c),aM 30,aU 34 (i64 e.t),aM 39,bL 45 (aD b1 0 1 2) M2,.at 47 (2,.val (aD b14 0 (k+1) (k+1)),a2)]) aJ aI (aG Try.prog) (fun _ _=>rfl) (by kernel_rfl) (hk (lC (o:=1) cP grb rfl) (hk (bT cc0) (hk (lC (o:=1) cP grb rfl) (hk (qI (i:Int) m (by omega) (by simp at cc0;omega)) (hk (lD (aE X0 hld0)) (hk (bT cc1) (hq (.eq (bE Try.prog 22 1 [(0,(i64 (i:Int)))] M) (1,.val (aD b1 0 1 2),M2)) (bZ (by rw[<-a8,<-a9];kernel_rfl) Nat.one_ne_zero) (hq (.q (.append [22,22] (aD r 0 k k) (aD b1 0 1 2) M2) (2,.val (aD b14 0 (k+1) (k+1)),a2)) (jD (by rw[<-a0,<-a3];exact jJ (w:=1) (by kernel_rfl) (by kernel_rfl) (by kernel_rfl) (y:=8) (by kernel_rfl) (by decide) (by decide) hg1.1 g5 rfl rfl rfl g9 hg1.2 rfl rfl rfl rfl) (Nat.succ_ne_zero _)) hn))))))))
 exact⟨T1,a2,b14,h1,h2,a7,a4,b2,a5,b0,hkp⟩
theorem r17x(rb:Nat)(a:Option Addr)(m c i:Nat)(v:Int)(S vn:Value){M:aA}(grb:M.get rb=some ⟨[vn,.slice a m c],87,2,0,true⟩)(hln:a.isNone=true->m=0/\c=0)(cc0:(decide ((i:Int)<(m:Int)))=false): ∃T1,Rd Try.prog [] (q34.loopAt 0) Try.f34.ntmps (fr [(0,(pt rb 0)),(1,(i64 v)),(5,S),(6,(i64 (i:Int)))]) M (.exit 0) T1 M/\ [5].map T1.get= [some S]:=by
 exact Rd.told (tb:=[]) (n:=60) (F:=[aU 11 (.slice a m c),aM 13,aO 16]) aJ aI (aG Try.prog) (fun _ _=>rfl) (by kernel_rfl) (hk (lC (o:=1) cP grb rfl) (hk (lN hln) (hk (bF cc0) hn)))
theorem Vq{rb n:Nat}{a:Option Addr}{c:Nat}{v:Int}{l:List E4}{M:aA}(hM:aB M)(grb:M.get rb=some ⟨[i64 n,.slice a l.length c],87,2,0,true⟩)(hs:aV l (.slice a l.length c) M)(hl:l.length<=400):
  ∃S M',bJ Try.prog [] (q34.loopAt 0) Try.f34.ntmps (fr [(0,pt rb 0),(1,i64 v),(5,cI),(6,i64 ((0:Nat):Int))]) M (.exit 0) (fr [(5,S)]) M'/\Ext M M'/\aB M'/\oN M M' S (bQ .to l v l.length):=by
 have hb:=aA.lt_of_get grb
 obtain⟨S,M',h1,h2,h3,_,h4⟩:=bJ.for (P:=Try.prog) (GL:= []) (b:=q34.loopAt 0) (nt:=Try.f34.ntmps) (id:=0) (σ:=Value) (n:=l.length) (Inv:=fun i S M1=>Ext M M1/\aB M1/\M1.get rb=some ⟨[i64 n,.slice a l.length c],87,2,0,true⟩/\oN M M1 S (bQ .to l v i))
  (F:=fun i S=> [(0,pt rb 0),(1,i64 v),(5,S),(6,i64 ((i:Nat):Int))])
  (O:=fun S=> [(5,S)])
  (by
   rintro i S M1 hi ⟨X1,a1,a0,hA⟩
   obtain⟨bb,o,rfl,_⟩:=cD hs (by omega)
   have ht:l[i]?=some l[i]:=List.getElem?_eq_getElem hi
   have hld:aX Try.prog 3 ⟨bb,o+((i:Int):Int).toNat*4+1,none⟩ M=some (i64 l[i].t):=iL (P:=Try.prog) (j:=1) hs ht rfl cO
   rw[sJ .to v ht]
   have hlen:=jP .to l v i
   by_cases hv:l[i].t=v
   ·rw[if_pos (show dB .to l[i]=v from hv)]
    rcases hA with⟨rfl,h0⟩|⟨r,rfl,h0,hr,hg⟩
    ·obtain⟨T1,M2,b2,h1,h2,h3,h4,h5,h6,h7,_⟩:=r17N rb bb o l.length c i v _ l[i] a1 X1 a0 (decide_eq_true (by omega)) (by simp [hv]) hld
     rw[aY (by omega)] at h2
     exact⟨_,T1,M2,h1,h2,h3,h4,h5,.inr ⟨b2,by rw[h0];rfl,by simp,h6,by rw[h7,h0];rfl⟩⟩
    ·obtain⟨T1,M2,b2,h1,h2,h3,h4,h5,h6,h7,_⟩:=r17G rb bb o l.length c i v _ l[i] r (bQ .to l v i).length _ a1 X1 a0 hr hg (by omega) (decide_eq_true (by omega)) (by simp [hv]) hld ⟨by omega,by simp⟩
     rw[aY (by omega)] at h2
     exact⟨_,T1,M2,h1,h2,h3,h4,h5,.inr ⟨b2,by rw[List.length_append];rfl,by simp,h6,by rw[h7,List.map_append];rfl⟩⟩
   ·rw[if_neg (show¬dB .to l[i]=v from hv),List.append_nil]
    obtain⟨T1,h1,h2⟩:=r17L rb bb o l.length c i v S _ l[i] X1 a0 (decide_eq_true (by omega)) (by simp [hv]) hld
    rw[aY (by omega)] at h2
    exact⟨S,T1,M1,h1,h2,X1,a1,a0,hA⟩)
  (by
   rintro S M1 ⟨X1,a1,a0,_⟩
   exact r17x rb a l.length c l.length v S _ a0 hs.ln (decide_eq_false (by omega)))
  l.length 0 (by omega) (s:=cI) (M:=M) ⟨Ext.refl M,hM,grb,.inl ⟨rfl,rfl⟩⟩
 exact⟨S,M',h1,h2,h3,h4⟩
theorem rK34:Try.f34.results= #[.tmp 4]:=by kernel_rfl
theorem Zi(rb n:Nat)(al:Option Addr)(cl:Nat)(l:List E4)(v:Int){M:aA}(hM:aB M)(grb:M.get rb=some ⟨[i64 n,.slice al l.length cl],87,2,0,true⟩)(hl:aV l (.slice al l.length cl) M)(hl400:l.length<=400): ∃v_ M',Ev Try.prog [] 34 [pt rb 0,i64 v] M v_ M'/\Ext M M'/\aB M'/\fG aP (bQ .to l v l.length) M.next v_ M':=by
 obtain⟨S1,M3,a0,E5,a1,A2⟩:=Vq hM grb (AP.Ext (R:=aV) hl (Ext.refl M)) hl400
 have X9:=(Ext.refl M).trans E5
 exact⟨S1,M3,Ev.told_tmp (tb:=[0]) (n:=60) (F:=[.blk 6 [0,1,5,6] .normal (fr [(5,S1)]) M3]) aJ aI Try.func34 Xj (by kernel_rfl) rK34 (fun B=>zN (gQ B) 0 a0) (fun _ h=>cF h) (by kernel_rfl) (hq (.blk 0 (.loop (q34.loopAt 0)) Try.f34.ntmps [0,1,5,6] [some (pt rb 0),some (i64 v),some cI,some (i64 0)] M .normal (fr [(5,S1)]) M3) (fH rfl) hn),X9,a1,oN.new A2 (Nat.le_trans (jP .to l v l.length) (by omega)) (Nat.le_refl _)⟩
abbrev Q34:=FC (iG (mG (eD 87) pI) fun x=>x.1.2.length<=400) (fG aP) (fun x=>bQ .to x.1.2 x.2 x.1.2.length)
theorem Pm{x:(Nat×List E4)×Int}{lv:List Value}{M:aA}(hM:aB M)(h:(iG (mG (eD 87) pI) fun x:(Nat×List E4)×Int=>x.1.2.length<=400) x lv M): ∃v M',lQ Try.prog [] 34 Q34 lv M v M':=by
 refine FC.con h ?_
 obtain⟨⟨g0,g1,rfl,k0,k1⟩,a0⟩:=h
 obtain⟨⟨n,l⟩,v⟩:=x
 obtain rfl:=k1
 obtain⟨rb,L,rfl,grb,hl⟩:=k0
 obtain⟨a,c,rfl⟩:=aK.form hl
 obtain⟨v',M',h1,h2,_,h3⟩:=Zi rb n a c l v hM grb hl a0
 exact⟨v',M',h1,h2,h3⟩
theorem Yk(rb bb o m c i:Nat)(v s:Int)(vn:Value)(ef et:Int){M:aA}{M0:aA}(X0:Ext M0 M)(grb:M.get rb=some ⟨[vn,aD bb o m c],87,2,0,true⟩)(cc0:(decide ((i:Int)<(m:Int)))=true)(cc1:(ef==v)=true)(hld0:aX Try.prog 3 ⟨bb,o+((i:Int):Int).toNat*4,none⟩ M0=some (i64 ef))(hld1:aX Try.prog 3 ⟨bb,o+((i:Int):Int).toNat*4+2,none⟩ M0=some (i64 0)): ∃T1,Rd Try.prog [] (q62.loopAt 0) Try.f62.ntmps (fr [(0,(pt rb 0)),(1,(i64 v)),(5,(i64 s)),(6,(i64 (i:Int)))]) M .normal T1 M/\ [0,1,5,6].map T1.get= [some (pt rb 0),some (i64 v),some (i64 (yY s (1:Int))),some (i64 (IntKind.wrap .i64 ((i:Int)+(1:Int))))]:=by
 exact Rd.told (tb:=[]) (n:=60) (F:=[aU 11 (aD bb o m c),aM 16,aU 26 (aD bb o m c),aM 30,aU 34 (i64 ef),aM 41,aM 43,aM 45,aM 47,aM 49,aM 51,aM 53,aM 55,aM 57,aM 59,aM 61,aM 64,aU 77 (aD bb o m c),aM 81,aU 85 (i64 0)]) aJ aI (aG Try.prog) (fun _ _=>rfl) (by kernel_rfl) (hk (lC (o:=1) cP grb rfl) (hk (bT cc0) (hk (lC (o:=1) cP grb rfl) (hk (qI (i:Int) m (by omega) (by simp at cc0;omega)) (hk (lD (aE X0 hld0)) (hk (bT cc1) (hk (bT cc1) (hk (bT cc1) (hk (bT cc1) (hk (bT cc1) (hk (bT cc1) (hk (bT cc1) (hk (bT cc1) (hk (bT cc1) (hk (bT cc1) (hk (bT cc1) (hk (bT cc1) (hk (lC (o:=1) cP grb rfl) (hk (qI (i:Int) m (by omega) (by simp at cc0;omega)) (hk (lD (aE X0 hld1)) hn))))))))))))))))))))
theorem Yl(rb bb o m c i:Nat)(v s:Int)(vn:Value)(ef et:Int){M:aA}{M0:aA}(X0:Ext M0 M)(grb:M.get rb=some ⟨[vn,aD bb o m c],87,2,0,true⟩)(cc0:(decide ((i:Int)<(m:Int)))=true)(cc1:(ef==v)=false)(cc2:(et==v)=true)(hld0:aX Try.prog 3 ⟨bb,o+((i:Int):Int).toNat*4,none⟩ M0=some (i64 ef))(hld1:aX Try.prog 3 ⟨bb,o+((i:Int):Int).toNat*4+1,none⟩ M0=some (i64 et))(hld2:aX Try.prog 3 ⟨bb,o+((i:Int):Int).toNat*4+2,none⟩ M0=some (i64 0)): ∃T1,Rd Try.prog [] (q62.loopAt 0) Try.f62.ntmps (fr [(0,(pt rb 0)),(1,(i64 v)),(5,(i64 s)),(6,(i64 (i:Int)))]) M .normal T1 M/\ [0,1,5,6].map T1.get= [some (pt rb 0),some (i64 v),some (i64 (yY s (1:Int))),some (i64 (IntKind.wrap .i64 ((i:Int)+(1:Int))))]:=by
 exact Rd.told (tb:=[]) (n:=60) (F:=[aU 11 (aD bb o m c),aM 16,aU 26 (aD bb o m c),aM 30,aU 34 (i64 ef),aO 41,aO 43,aO 45,aO 47,aO 49,aU 50 (aD bb o m c),aO 51,aO 53,aM 54,aO 55,aO 57,aU 58 (i64 et),aO 59,aO 61,aO 64,aM 65,aU 77 (aD bb o m c),aM 81,aU 85 (i64 0)]) aJ aI (aG Try.prog) (fun _ _=>rfl) (by kernel_rfl) (hk (lC (o:=1) cP grb rfl) (hk (bT cc0) (hk (lC (o:=1) cP grb rfl) (hk (qI (i:Int) m (by omega) (by simp at cc0;omega)) (hk (lD (aE X0 hld0)) (hk (bF cc1) (hk (bF cc1) (hk (bF cc1) (hk (bF cc1) (hk (bF cc1) (hk (lC (o:=1) cP grb rfl) (hk (bF cc1) (hk (bF cc1) (hk (qI (i:Int) m (by omega) (by simp at cc0;omega)) (hk (bF cc1) (hk (bF cc1) (hk (lD (aE X0 hld1)) (hk (bF cc1) (hk (bF cc1) (hk (bF cc1) (hk (bT cc2) (hk (lC (o:=1) cP grb rfl) (hk (qI (i:Int) m (by omega) (by simp at cc0;omega)) (hk (lD (aE X0 hld2)) hn))))))))))))))))))))))))
theorem Ym(rb bb o m c i:Nat)(v s:Int)(vn:Value)(ef et:Int){M:aA}{M0:aA}(X0:Ext M0 M)(grb:M.get rb=some ⟨[vn,aD bb o m c],87,2,0,true⟩)(cc0:(decide ((i:Int)<(m:Int)))=true)(cc1:(ef==v)=false)(cc2:(et==v)=false)(hld0:aX Try.prog 3 ⟨bb,o+((i:Int):Int).toNat*4,none⟩ M0=some (i64 ef))(hld1:aX Try.prog 3 ⟨bb,o+((i:Int):Int).toNat*4+1,none⟩ M0=some (i64 et)): ∃T1,Rd Try.prog [] (q62.loopAt 0) Try.f62.ntmps (fr [(0,(pt rb 0)),(1,(i64 v)),(5,(i64 s)),(6,(i64 (i:Int)))]) M .normal T1 M/\ [0,1,5,6].map T1.get= [some (pt rb 0),some (i64 v),some (i64 s),some (i64 (IntKind.wrap .i64 ((i:Int)+(1:Int))))]:=by
 exact Rd.told (tb:=[]) (n:=60) (F:=[aU 11 (aD bb o m c),aM 16,aU 26 (aD bb o m c),aM 30,aU 34 (i64 ef),aO 41,aO 43,aO 45,aO 47,aO 49,aU 50 (aD bb o m c),aO 51,aO 53,aM 54,aO 55,aO 57,aU 58 (i64 et),aO 59,aO 61,aO 64,aO 65]) aJ aI (aG Try.prog) (fun _ _=>rfl) (by kernel_rfl) (hk (lC (o:=1) cP grb rfl) (hk (bT cc0) (hk (lC (o:=1) cP grb rfl) (hk (qI (i:Int) m (by omega) (by simp at cc0;omega)) (hk (lD (aE X0 hld0)) (hk (bF cc1) (hk (bF cc1) (hk (bF cc1) (hk (bF cc1) (hk (bF cc1) (hk (lC (o:=1) cP grb rfl) (hk (bF cc1) (hk (bF cc1) (hk (qI (i:Int) m (by omega) (by simp at cc0;omega)) (hk (bF cc1) (hk (bF cc1) (hk (lD (aE X0 hld1)) (hk (bF cc1) (hk (bF cc1) (hk (bF cc1) (hk (bF cc2) hn)))))))))))))))))))))
theorem Yn(rb bb o m c i:Nat)(v s:Int)(vn:Value)(ef et:Int){M:aA}{M0:aA}(X0:Ext M0 M)(grb:M.get rb=some ⟨[vn,aD bb o m c],87,2,0,true⟩)(cc0:(decide ((i:Int)<(m:Int)))=true)(cc1:(ef==v)=true)(hld0:aX Try.prog 3 ⟨bb,o+((i:Int):Int).toNat*4,none⟩ M0=some (i64 ef))(hld1:aX Try.prog 3 ⟨bb,o+((i:Int):Int).toNat*4+2,none⟩ M0=some (i64 1)): ∃T1,Rd Try.prog [] (q62.loopAt 0) Try.f62.ntmps (fr [(0,(pt rb 0)),(1,(i64 v)),(5,(i64 s)),(6,(i64 (i:Int)))]) M .normal T1 M/\ [0,1,5,6].map T1.get= [some (pt rb 0),some (i64 v),some (i64 (yY s (2:Int))),some (i64 (IntKind.wrap .i64 ((i:Int)+(1:Int))))]:=by
 exact Rd.told (tb:=[]) (n:=60) (F:=[aU 11 (aD bb o m c),aM 16,aU 26 (aD bb o m c),aM 30,aU 34 (i64 ef),aM 41,aM 43,aM 45,aM 47,aM 49,aM 51,aM 53,aM 55,aM 57,aM 59,aM 61,aM 64,aU 77 (aD bb o m c),aM 81,aU 85 (i64 1)]) aJ aI (aG Try.prog) (fun _ _=>rfl) (by kernel_rfl) (hk (lC (o:=1) cP grb rfl) (hk (bT cc0) (hk (lC (o:=1) cP grb rfl) (hk (qI (i:Int) m (by omega) (by simp at cc0;omega)) (hk (lD (aE X0 hld0)) (hk (bT cc1) (hk (bT cc1) (hk (bT cc1) (hk (bT cc1) (hk (bT cc1) (hk (bT cc1) (hk (bT cc1) (hk (bT cc1) (hk (bT cc1) (hk (bT cc1) (hk (bT cc1) (hk (bT cc1) (hk (lC (o:=1) cP grb rfl) (hk (qI (i:Int) m (by omega) (by simp at cc0;omega)) (hk (lD (aE X0 hld1)) hn))))))))))))))))))))
theorem Yo(rb bb o m c i:Nat)(v s:Int)(vn:Value)(ef et:Int){M:aA}{M0:aA}(X0:Ext M0 M)(grb:M.get rb=some ⟨[vn,aD bb o m c],87,2,0,true⟩)(cc0:(decide ((i:Int)<(m:Int)))=true)(cc1:(ef==v)=false)(cc2:(et==v)=true)(hld0:aX Try.prog 3 ⟨bb,o+((i:Int):Int).toNat*4,none⟩ M0=some (i64 ef))(hld1:aX Try.prog 3 ⟨bb,o+((i:Int):Int).toNat*4+1,none⟩ M0=some (i64 et))(hld2:aX Try.prog 3 ⟨bb,o+((i:Int):Int).toNat*4+2,none⟩ M0=some (i64 1)): ∃T1,Rd Try.prog [] (q62.loopAt 0) Try.f62.ntmps (fr [(0,(pt rb 0)),(1,(i64 v)),(5,(i64 s)),(6,(i64 (i:Int)))]) M .normal T1 M/\ [0,1,5,6].map T1.get= [some (pt rb 0),some (i64 v),some (i64 (yY s (2:Int))),some (i64 (IntKind.wrap .i64 ((i:Int)+(1:Int))))]:=by
 exact Rd.told (tb:=[]) (n:=60) (F:=[aU 11 (aD bb o m c),aM 16,aU 26 (aD bb o m c),aM 30,aU 34 (i64 ef),aO 41,aO 43,aO 45,aO 47,aO 49,aU 50 (aD bb o m c),aO 51,aO 53,aM 54,aO 55,aO 57,aU 58 (i64 et),aO 59,aO 61,aO 64,aM 65,aU 77 (aD bb o m c),aM 81,aU 85 (i64 1)]) aJ aI (aG Try.prog) (fun _ _=>rfl) (by kernel_rfl) (hk (lC (o:=1) cP grb rfl) (hk (bT cc0) (hk (lC (o:=1) cP grb rfl) (hk (qI (i:Int) m (by omega) (by simp at cc0;omega)) (hk (lD (aE X0 hld0)) (hk (bF cc1) (hk (bF cc1) (hk (bF cc1) (hk (bF cc1) (hk (bF cc1) (hk (lC (o:=1) cP grb rfl) (hk (bF cc1) (hk (bF cc1) (hk (qI (i:Int) m (by omega) (by simp at cc0;omega)) (hk (bF cc1) (hk (bF cc1) (hk (lD (aE X0 hld1)) (hk (bF cc1) (hk (bF cc1) (hk (bF cc1) (hk (bT cc2) (hk (lC (o:=1) cP grb rfl) (hk (qI (i:Int) m (by omega) (by simp at cc0;omega)) (hk (lD (aE X0 hld2)) hn))))))))))))))))))))))))
theorem Yp(rb bb o m c i:Nat)(v s:Int)(vn:Value)(ef et:Int){M:aA}{M0:aA}(X0:Ext M0 M)(grb:M.get rb=some ⟨[vn,aD bb o m c],87,2,0,true⟩)(cc0:(decide ((i:Int)<(m:Int)))=true)(cc1:(ef==v)=true)(hld0:aX Try.prog 3 ⟨bb,o+((i:Int):Int).toNat*4,none⟩ M0=some (i64 ef))(hld1:aX Try.prog 3 ⟨bb,o+((i:Int):Int).toNat*4+2,none⟩ M0=some (i64 2)): ∃T1,Rd Try.prog [] (q62.loopAt 0) Try.f62.ntmps (fr [(0,(pt rb 0)),(1,(i64 v)),(5,(i64 s)),(6,(i64 (i:Int)))]) M .normal T1 M/\ [0,1,5,6].map T1.get= [some (pt rb 0),some (i64 v),some (i64 (yY s (4:Int))),some (i64 (IntKind.wrap .i64 ((i:Int)+(1:Int))))]:=by
 exact Rd.told (tb:=[]) (n:=60) (F:=[aU 11 (aD bb o m c),aM 16,aU 26 (aD bb o m c),aM 30,aU 34 (i64 ef),aM 41,aM 43,aM 45,aM 47,aM 49,aM 51,aM 53,aM 55,aM 57,aM 59,aM 61,aM 64,aU 77 (aD bb o m c),aM 81,aU 85 (i64 2)]) aJ aI (aG Try.prog) (fun _ _=>rfl) (by kernel_rfl) (hk (lC (o:=1) cP grb rfl) (hk (bT cc0) (hk (lC (o:=1) cP grb rfl) (hk (qI (i:Int) m (by omega) (by simp at cc0;omega)) (hk (lD (aE X0 hld0)) (hk (bT cc1) (hk (bT cc1) (hk (bT cc1) (hk (bT cc1) (hk (bT cc1) (hk (bT cc1) (hk (bT cc1) (hk (bT cc1) (hk (bT cc1) (hk (bT cc1) (hk (bT cc1) (hk (bT cc1) (hk (lC (o:=1) cP grb rfl) (hk (qI (i:Int) m (by omega) (by simp at cc0;omega)) (hk (lD (aE X0 hld1)) hn))))))))))))))))))))
theorem Yq(rb bb o m c i:Nat)(v s:Int)(vn:Value)(ef et:Int){M:aA}{M0:aA}(X0:Ext M0 M)(grb:M.get rb=some ⟨[vn,aD bb o m c],87,2,0,true⟩)(cc0:(decide ((i:Int)<(m:Int)))=true)(cc1:(ef==v)=false)(cc2:(et==v)=true)(hld0:aX Try.prog 3 ⟨bb,o+((i:Int):Int).toNat*4,none⟩ M0=some (i64 ef))(hld1:aX Try.prog 3 ⟨bb,o+((i:Int):Int).toNat*4+1,none⟩ M0=some (i64 et))(hld2:aX Try.prog 3 ⟨bb,o+((i:Int):Int).toNat*4+2,none⟩ M0=some (i64 2)): ∃T1,Rd Try.prog [] (q62.loopAt 0) Try.f62.ntmps (fr [(0,(pt rb 0)),(1,(i64 v)),(5,(i64 s)),(6,(i64 (i:Int)))]) M .normal T1 M/\ [0,1,5,6].map T1.get= [some (pt rb 0),some (i64 v),some (i64 (yY s (4:Int))),some (i64 (IntKind.wrap .i64 ((i:Int)+(1:Int))))]:=by
 exact Rd.told (tb:=[]) (n:=60) (F:=[aU 11 (aD bb o m c),aM 16,aU 26 (aD bb o m c),aM 30,aU 34 (i64 ef),aO 41,aO 43,aO 45,aO 47,aO 49,aU 50 (aD bb o m c),aO 51,aO 53,aM 54,aO 55,aO 57,aU 58 (i64 et),aO 59,aO 61,aO 64,aM 65,aU 77 (aD bb o m c),aM 81,aU 85 (i64 2)]) aJ aI (aG Try.prog) (fun _ _=>rfl) (by kernel_rfl) (hk (lC (o:=1) cP grb rfl) (hk (bT cc0) (hk (lC (o:=1) cP grb rfl) (hk (qI (i:Int) m (by omega) (by simp at cc0;omega)) (hk (lD (aE X0 hld0)) (hk (bF cc1) (hk (bF cc1) (hk (bF cc1) (hk (bF cc1) (hk (bF cc1) (hk (lC (o:=1) cP grb rfl) (hk (bF cc1) (hk (bF cc1) (hk (qI (i:Int) m (by omega) (by simp at cc0;omega)) (hk (bF cc1) (hk (bF cc1) (hk (lD (aE X0 hld1)) (hk (bF cc1) (hk (bF cc1) (hk (bF cc1) (hk (bT cc2) (hk (lC (o:=1) cP grb rfl) (hk (qI (i:Int) m (by omega) (by simp at cc0;omega)) (hk (lD (aE X0 hld2)) hn))))))))))))))))))))))))
theorem Yr(rb bb o m c i:Nat)(v s:Int)(vn:Value)(ef et:Int){M:aA}{M0:aA}(X0:Ext M0 M)(grb:M.get rb=some ⟨[vn,aD bb o m c],87,2,0,true⟩)(cc0:(decide ((i:Int)<(m:Int)))=true)(cc1:(ef==v)=true)(hld0:aX Try.prog 3 ⟨bb,o+((i:Int):Int).toNat*4,none⟩ M0=some (i64 ef))(hld1:aX Try.prog 3 ⟨bb,o+((i:Int):Int).toNat*4+2,none⟩ M0=some (i64 3)): ∃T1,Rd Try.prog [] (q62.loopAt 0) Try.f62.ntmps (fr [(0,(pt rb 0)),(1,(i64 v)),(5,(i64 s)),(6,(i64 (i:Int)))]) M .normal T1 M/\ [0,1,5,6].map T1.get= [some (pt rb 0),some (i64 v),some (i64 (yY s (8:Int))),some (i64 (IntKind.wrap .i64 ((i:Int)+(1:Int))))]:=by
 exact Rd.told (tb:=[]) (n:=60) (F:=[aU 11 (aD bb o m c),aM 16,aU 26 (aD bb o m c),aM 30,aU 34 (i64 ef),aM 41,aM 43,aM 45,aM 47,aM 49,aM 51,aM 53,aM 55,aM 57,aM 59,aM 61,aM 64,aU 77 (aD bb o m c),aM 81,aU 85 (i64 3)]) aJ aI (aG Try.prog) (fun _ _=>rfl) (by kernel_rfl) (hk (lC (o:=1) cP grb rfl) (hk (bT cc0) (hk (lC (o:=1) cP grb rfl) (hk (qI (i:Int) m (by omega) (by simp at cc0;omega)) (hk (lD (aE X0 hld0)) (hk (bT cc1) (hk (bT cc1) (hk (bT cc1) (hk (bT cc1) (hk (bT cc1) (hk (bT cc1) (hk (bT cc1) (hk (bT cc1) (hk (bT cc1) (hk (bT cc1) (hk (bT cc1) (hk (bT cc1) (hk (lC (o:=1) cP grb rfl) (hk (qI (i:Int) m (by omega) (by simp at cc0;omega)) (hk (lD (aE X0 hld1)) hn))))))))))))))))))))
theorem Ys(rb bb o m c i:Nat)(v s:Int)(vn:Value)(ef et:Int){M:aA}{M0:aA}(X0:Ext M0 M)(grb:M.get rb=some ⟨[vn,aD bb o m c],87,2,0,true⟩)(cc0:(decide ((i:Int)<(m:Int)))=true)(cc1:(ef==v)=false)(cc2:(et==v)=true)(hld0:aX Try.prog 3 ⟨bb,o+((i:Int):Int).toNat*4,none⟩ M0=some (i64 ef))(hld1:aX Try.prog 3 ⟨bb,o+((i:Int):Int).toNat*4+1,none⟩ M0=some (i64 et))(hld2:aX Try.prog 3 ⟨bb,o+((i:Int):Int).toNat*4+2,none⟩ M0=some (i64 3)): ∃T1,Rd Try.prog [] (q62.loopAt 0) Try.f62.ntmps (fr [(0,(pt rb 0)),(1,(i64 v)),(5,(i64 s)),(6,(i64 (i:Int)))]) M .normal T1 M/\ [0,1,5,6].map T1.get= [some (pt rb 0),some (i64 v),some (i64 (yY s (8:Int))),some (i64 (IntKind.wrap .i64 ((i:Int)+(1:Int))))]:=by
 exact Rd.told (tb:=[]) (n:=60) (F:=[aU 11 (aD bb o m c),aM 16,aU 26 (aD bb o m c),aM 30,aU 34 (i64 ef),aO 41,aO 43,aO 45,aO 47,aO 49,aU 50 (aD bb o m c),aO 51,aO 53,aM 54,aO 55,aO 57,aU 58 (i64 et),aO 59,aO 61,aO 64,aM 65,aU 77 (aD bb o m c),aM 81,aU 85 (i64 3)]) aJ aI (aG Try.prog) (fun _ _=>rfl) (by kernel_rfl) (hk (lC (o:=1) cP grb rfl) (hk (bT cc0) (hk (lC (o:=1) cP grb rfl) (hk (qI (i:Int) m (by omega) (by simp at cc0;omega)) (hk (lD (aE X0 hld0)) (hk (bF cc1) (hk (bF cc1) (hk (bF cc1) (hk (bF cc1) (hk (bF cc1) (hk (lC (o:=1) cP grb rfl) (hk (bF cc1) (hk (bF cc1) (hk (qI (i:Int) m (by omega) (by simp at cc0;omega)) (hk (bF cc1) (hk (bF cc1) (hk (lD (aE X0 hld1)) (hk (bF cc1) (hk (bF cc1) (hk (bF cc1) (hk (bT cc2) (hk (lC (o:=1) cP grb rfl) (hk (qI (i:Int) m (by omega) (by simp at cc0;omega)) (hk (lD (aE X0 hld2)) hn))))))))))))))))))))))))
theorem Yt(rb bb o m c i:Nat)(v s:Int)(vn:Value)(ef et:Int){M:aA}{M0:aA}(X0:Ext M0 M)(grb:M.get rb=some ⟨[vn,aD bb o m c],87,2,0,true⟩)(cc0:(decide ((i:Int)<(m:Int)))=true)(cc1:(ef==v)=true)(hld0:aX Try.prog 3 ⟨bb,o+((i:Int):Int).toNat*4,none⟩ M0=some (i64 ef))(hld1:aX Try.prog 3 ⟨bb,o+((i:Int):Int).toNat*4+2,none⟩ M0=some (i64 4)): ∃T1,Rd Try.prog [] (q62.loopAt 0) Try.f62.ntmps (fr [(0,(pt rb 0)),(1,(i64 v)),(5,(i64 s)),(6,(i64 (i:Int)))]) M .normal T1 M/\ [0,1,5,6].map T1.get= [some (pt rb 0),some (i64 v),some (i64 (yY s (16:Int))),some (i64 (IntKind.wrap .i64 ((i:Int)+(1:Int))))]:=by
 exact Rd.told (tb:=[]) (n:=60) (F:=[aU 11 (aD bb o m c),aM 16,aU 26 (aD bb o m c),aM 30,aU 34 (i64 ef),aM 41,aM 43,aM 45,aM 47,aM 49,aM 51,aM 53,aM 55,aM 57,aM 59,aM 61,aM 64,aU 77 (aD bb o m c),aM 81,aU 85 (i64 4)]) aJ aI (aG Try.prog) (fun _ _=>rfl) (by kernel_rfl) (hk (lC (o:=1) cP grb rfl) (hk (bT cc0) (hk (lC (o:=1) cP grb rfl) (hk (qI (i:Int) m (by omega) (by simp at cc0;omega)) (hk (lD (aE X0 hld0)) (hk (bT cc1) (hk (bT cc1) (hk (bT cc1) (hk (bT cc1) (hk (bT cc1) (hk (bT cc1) (hk (bT cc1) (hk (bT cc1) (hk (bT cc1) (hk (bT cc1) (hk (bT cc1) (hk (bT cc1) (hk (lC (o:=1) cP grb rfl) (hk (qI (i:Int) m (by omega) (by simp at cc0;omega)) (hk (lD (aE X0 hld1)) hn))))))))))))))))))))
theorem Yu(rb bb o m c i:Nat)(v s:Int)(vn:Value)(ef et:Int){M:aA}{M0:aA}(X0:Ext M0 M)(grb:M.get rb=some ⟨[vn,aD bb o m c],87,2,0,true⟩)(cc0:(decide ((i:Int)<(m:Int)))=true)(cc1:(ef==v)=false)(cc2:(et==v)=true)(hld0:aX Try.prog 3 ⟨bb,o+((i:Int):Int).toNat*4,none⟩ M0=some (i64 ef))(hld1:aX Try.prog 3 ⟨bb,o+((i:Int):Int).toNat*4+1,none⟩ M0=some (i64 et))(hld2:aX Try.prog 3 ⟨bb,o+((i:Int):Int).toNat*4+2,none⟩ M0=some (i64 4)): ∃T1,Rd Try.prog [] (q62.loopAt 0) Try.f62.ntmps (fr [(0,(pt rb 0)),(1,(i64 v)),(5,(i64 s)),(6,(i64 (i:Int)))]) M .normal T1 M/\ [0,1,5,6].map T1.get= [some (pt rb 0),some (i64 v),some (i64 (yY s (16:Int))),some (i64 (IntKind.wrap .i64 ((i:Int)+(1:Int))))]:=by
 exact Rd.told (tb:=[]) (n:=60) (F:=[aU 11 (aD bb o m c),aM 16,aU 26 (aD bb o m c),aM 30,aU 34 (i64 ef),aO 41,aO 43,aO 45,aO 47,aO 49,aU 50 (aD bb o m c),aO 51,aO 53,aM 54,aO 55,aO 57,aU 58 (i64 et),aO 59,aO 61,aO 64,aM 65,aU 77 (aD bb o m c),aM 81,aU 85 (i64 4)]) aJ aI (aG Try.prog) (fun _ _=>rfl) (by kernel_rfl) (hk (lC (o:=1) cP grb rfl) (hk (bT cc0) (hk (lC (o:=1) cP grb rfl) (hk (qI (i:Int) m (by omega) (by simp at cc0;omega)) (hk (lD (aE X0 hld0)) (hk (bF cc1) (hk (bF cc1) (hk (bF cc1) (hk (bF cc1) (hk (bF cc1) (hk (lC (o:=1) cP grb rfl) (hk (bF cc1) (hk (bF cc1) (hk (qI (i:Int) m (by omega) (by simp at cc0;omega)) (hk (bF cc1) (hk (bF cc1) (hk (lD (aE X0 hld1)) (hk (bF cc1) (hk (bF cc1) (hk (bF cc1) (hk (bT cc2) (hk (lC (o:=1) cP grb rfl) (hk (qI (i:Int) m (by omega) (by simp at cc0;omega)) (hk (lD (aE X0 hld2)) hn))))))))))))))))))))))))
theorem r22x(rb:Nat)(a:Option Addr)(m c i:Nat)(v s:Int)(vn:Value){M:aA}(grb:M.get rb=some ⟨[vn,.slice a m c],87,2,0,true⟩)(hln:a.isNone=true->m=0/\c=0)(cc0:(decide ((i:Int)<(m:Int)))=false): ∃T1,Rd Try.prog [] (q62.loopAt 0) Try.f62.ntmps (fr [(0,(pt rb 0)),(1,(i64 v)),(5,(i64 s)),(6,(i64 (i:Int)))]) M (.exit 0) T1 M/\ [5].map T1.get= [some (i64 s)]:=by
 exact Rd.told (tb:=[]) (n:=60) (F:=[aU 11 (.slice a m c),aM 13,aO 16]) aJ aI (aG Try.prog) (fun _ _=>rfl) (by kernel_rfl) (hk (lC (o:=1) cP grb rfl) (hk (lN hln) (hk (bF cc0) hn)))
theorem Vr{rb n:Nat}{a:Option Addr}{c:Nat}{v:Int}{l:List E4}{M:aA}(hM:aB M)(grb:M.get rb=some ⟨[i64 n,.slice a l.length c],87,2,0,true⟩)(hs:aV l (.slice a l.length c) M)(hok: ∀e∈l,Dc e):
  ∃M',bJ Try.prog [] (q62.loopAt 0) Try.f62.ntmps (fr [(0,pt rb 0),(1,i64 v),(5,i64 0),(6,i64 ((0:Nat):Int))]) M (.exit 0) (fr [(5,i64 (aQ l v l.length))]) M'/\Ext M M'/\aB M':=by
 have hlen:=hs.len
 obtain⟨_,M',h1,h2,h3,_⟩:=bJ.for (P:=Try.prog) (GL:= []) (b:=q62.loopAt 0) (nt:=Try.f62.ntmps) (id:=0) (σ:=Unit) (n:=l.length) (Inv:=fun i _ M1=>Ext M M1/\aB M1/\True)
  (F:=fun i _=> [(0,pt rb 0),(1,i64 v),(5,i64 (aQ l v i)),(6,i64 ((i:Nat):Int))])
  (O:=fun _=> [(5,i64 (aQ l v l.length))])
  (by
   rintro i _ M1 hi ⟨X1,a1,_⟩
   obtain⟨bb,o,rfl,_⟩:=cD hs (by omega)
   have ht:l[i]?=some l[i]:=List.getElem?_eq_getElem hi
   have hm:=hok _ (List.getElem_mem hi)
   have a3:aX Try.prog 3 ⟨bb,o+((i:Int):Int).toNat*4,none⟩ M=some (i64 l[i].f):=iL (P:=Try.prog) (j:=0) hs ht rfl cO
   have a4:aX Try.prog 3 ⟨bb,o+((i:Int):Int).toNat*4+1,none⟩ M=some (i64 l[i].t):=iL (P:=Try.prog) (j:=1) hs ht rfl cO
   have a2:aX Try.prog 3 ⟨bb,o+((i:Int):Int).toNat*4+2,none⟩ M=some (i64 l[i].m):=iL (P:=Try.prog) (j:=2) hs ht rfl cO
   have a0:=X1.old grb
   rw[pL v ht]
   have hc:decide ((i:Int)<(l.length:Int))=true:=decide_eq_true (by omega)
   have hmm:l[i].m=0\/l[i].m=1\/l[i].m=2\/l[i].m=3\/l[i].m=4:=by unfold Dc at hm;omega
   by_cases hf:l[i].f=v
   ·rw[if_pos (.inl hf)]
    rcases hmm with hk|hk|hk|hk|hk<;>rw[hk] at a2⊢
    ·obtain⟨T1,h1,h2⟩:=Yk rb bb o l.length c i v _ _ l[i].f l[i].t X1 a0 hc (by simp [hf]) a3 a2
     rw[aY (by omega)] at h2
     exact⟨(),T1,M1,h1,h2,X1,a1,trivial⟩
    ·obtain⟨T1,h1,h2⟩:=Yn rb bb o l.length c i v _ _ l[i].f l[i].t X1 a0 hc (by simp [hf]) a3 a2
     rw[aY (by omega)] at h2
     exact⟨(),T1,M1,h1,h2,X1,a1,trivial⟩
    ·obtain⟨T1,h1,h2⟩:=Yp rb bb o l.length c i v _ _ l[i].f l[i].t X1 a0 hc (by simp [hf]) a3 a2
     rw[aY (by omega)] at h2
     exact⟨(),T1,M1,h1,h2,X1,a1,trivial⟩
    ·obtain⟨T1,h1,h2⟩:=Yr rb bb o l.length c i v _ _ l[i].f l[i].t X1 a0 hc (by simp [hf]) a3 a2
     rw[aY (by omega)] at h2
     exact⟨(),T1,M1,h1,h2,X1,a1,trivial⟩
    ·obtain⟨T1,h1,h2⟩:=Yt rb bb o l.length c i v _ _ l[i].f l[i].t X1 a0 hc (by simp [hf]) a3 a2
     rw[aY (by omega)] at h2
     exact⟨(),T1,M1,h1,h2,X1,a1,trivial⟩
   ·by_cases hg:l[i].t=v
    ·rw[if_pos (.inr hg)]
     rcases hmm with hk|hk|hk|hk|hk<;>rw[hk] at a2⊢
     ·obtain⟨T1,h1,h2⟩:=Yl rb bb o l.length c i v _ _ l[i].f l[i].t X1 a0 hc (by simp [hf]) (by simp [hg]) a3 a4 a2
      rw[aY (by omega)] at h2
      exact⟨(),T1,M1,h1,h2,X1,a1,trivial⟩
     ·obtain⟨T1,h1,h2⟩:=Yo rb bb o l.length c i v _ _ l[i].f l[i].t X1 a0 hc (by simp [hf]) (by simp [hg]) a3 a4 a2
      rw[aY (by omega)] at h2
      exact⟨(),T1,M1,h1,h2,X1,a1,trivial⟩
     ·obtain⟨T1,h1,h2⟩:=Yq rb bb o l.length c i v _ _ l[i].f l[i].t X1 a0 hc (by simp [hf]) (by simp [hg]) a3 a4 a2
      rw[aY (by omega)] at h2
      exact⟨(),T1,M1,h1,h2,X1,a1,trivial⟩
     ·obtain⟨T1,h1,h2⟩:=Ys rb bb o l.length c i v _ _ l[i].f l[i].t X1 a0 hc (by simp [hf]) (by simp [hg]) a3 a4 a2
      rw[aY (by omega)] at h2
      exact⟨(),T1,M1,h1,h2,X1,a1,trivial⟩
     ·obtain⟨T1,h1,h2⟩:=Yu rb bb o l.length c i v _ _ l[i].f l[i].t X1 a0 hc (by simp [hf]) (by simp [hg]) a3 a4 a2
      rw[aY (by omega)] at h2
      exact⟨(),T1,M1,h1,h2,X1,a1,trivial⟩
    ·rw[if_neg (fun h=>h.elim hf hg)]
     obtain⟨T1,h1,h2⟩:=Ym rb bb o l.length c i v _ _ l[i].f l[i].t X1 a0 hc (by simp [hf]) (by simp [hg]) a3 a4
     rw[aY (by omega)] at h2
     exact⟨(),T1,M1,h1,h2,X1,a1,trivial⟩)
  (by
   rintro _ M1 ⟨X1,a1,_⟩
   exact r22x rb a l.length c l.length v _ _ (X1.old grb) hs.ln (decide_eq_false (by omega)))
  l.length 0 (by omega) (s:=()) (M:=M) ⟨Ext.refl M,hM,trivial⟩
 exact⟨M',h1,h2,h3⟩
theorem rK62:Try.f62.results= #[.tmp 4]:=by kernel_rfl
theorem w22(rb n:Nat)(al:Option Addr)(cl:Nat)(l:List E4)(v:Int){M:aA}(hM:aB M)(grb:M.get rb=some ⟨[i64 n,.slice al l.length cl],87,2,0,true⟩)(hl:aV l (.slice al l.length cl) M)(hokM: ∀e∈l,Dc e): ∃v_ M',Ev Try.prog [] 62 [pt rb 0,i64 v] M v_ M'/\Ext M M'/\aB M'/\v_=i64 (aQ l v l.length):=by
 obtain⟨M1,a0,E3,a1⟩:=Vr hM grb (AP.Ext (R:=aV) hl (Ext.refl M)) hokM
 have X7:=(Ext.refl M).trans E3
 exact⟨i64 (aQ l v l.length),M1,Ev.told_tmp (tb:=[0]) (n:=60) (F:=[.blk 6 [0,1,5,6] .normal (fr [(5,(i64 (aQ l v l.length)))]) M1]) aJ aI Try.func62 Xu (by kernel_rfl) rK62 (fun B=>zN (gQ B) 0 a0) (fun _ h=>cF h) (by kernel_rfl) (hq (.blk 0 (.loop (q62.loopAt 0)) Try.f62.ntmps [0,1,5,6] [some (pt rb 0),some (i64 v),some (i64 0),some (i64 0)] M .normal (fr [(5,(i64 (aQ l v l.length)))]) M1) (fH rfl) hn),X7,a1,rfl⟩
abbrev Q62:=FC (iG (mG (eD 87) pI) fun x=> ∀e∈x.1.2,Dc e) (plain pI) (fun x=>aQ x.1.2 x.2 x.1.2.length)
theorem tS{x:(Nat×List E4)×Int}{lv:List Value}{M:aA}(hM:aB M)(h:(iG (mG (eD 87) pI) fun x:(Nat×List E4)×Int=> ∀e∈x.1.2,Dc e) x lv M): ∃v M',lQ Try.prog [] 62 Q62 lv M v M':=by
 refine FC.con h ?_
 obtain⟨⟨g0,g1,rfl,k0,k1⟩,a0⟩:=h
 obtain⟨⟨n,l⟩,v⟩:=x
 obtain rfl:=k1
 obtain⟨rb,L,rfl,grb,hl⟩:=k0
 obtain⟨a,c,rfl⟩:=aK.form hl
 obtain⟨v',M',h1,h2,_,h3⟩:=w22 rb n a c l v hM grb hl a0
 exact⟨v',M',h1,h2,h3⟩
theorem r11N(b rb n i:Nat)(vl:Value)(l:List E4){M M0:aA}(hM:aB M)(X0:Ext M0 M)(gb:M.get b=some ⟨[i64 n,vl],26,2,0,true⟩)(href:eD 87 (n,l) (pt rb 0) M0)(hokM: ∀e∈l,Dc e)(cc0:(decide ((i:Int)<(n:Int)))=true): ∃T1 M' b71,Rd Try.prog [] (q32.loopAt 0) Try.f32.ntmps (fr [(1,(pt b 0)),(3,(pt rb 0)),(4,cI),(5,(i64 (i:Int)))]) M .normal T1 M'/\ [1,3,4,5].map T1.get= [some (pt b 0),some (pt rb 0),some (aD b71 0 1 1),some (i64 (IntKind.wrap .i64 ((i:Int)+(1:Int))))]/\Ext M0 M'/\aB M'/\M'.get b=some ⟨[i64 (n:Int),vl],26,2,0,true⟩/\M0.next<=b71/\M'.get b71=some ⟨[.bool (decide ((IntKind.wrap .i64 ((IntKind.wrap .i64 ((IntKind.wrap .i64 ((IntKind.wrap .i64 ((IntKind.wrap .i64 ((0:Int)+(fZ ((aQ l (i:Int) l.length).fdiv (2^(0:Int).toNat)) (1:Int))))+(fZ ((aQ l (i:Int) l.length).fdiv (2^(1:Int).toNat)) (1:Int))))+(fZ ((aQ l (i:Int) l.length).fdiv (2^(2:Int).toNat)) (1:Int))))+(fZ ((aQ l (i:Int) l.length).fdiv (2^(3:Int).toNat)) (1:Int))))+(fZ ((aQ l (i:Int) l.length).fdiv (2^(4:Int).toNat)) (1:Int))))>=(2:Int)))],4,1,0,true⟩/\ ∀id k,M.get id=some k->id≠b->M'.get id=some k:=by
 obtain⟨w1,N2,M3,p4,l5,e6,E7,f5,F9⟩:=aH (x:=((n,l),(i:Int))) hM tS (⟨⟨_,_,rfl,AP.Ext (R:=(eD 87)) href X0,rfl⟩,hokM⟩)
 have e4:=E7.old gb
 have e3:w1=(i64 (aQ l (i:Int) l.length)):=F9
 subst e3
 have c8:=X0.trans E7
 obtain⟨Kb,g5,a8,g0,f6,d9,a2,c1,d3⟩:=aH (x:=((n,l),(i:Int))) f5 tS (⟨⟨_,_,rfl,AP.Ext (R:=(eD 87)) href c8,rfl⟩,hokM⟩)
 have e5:=a2.old e4
 have b7:Kb=(i64 (aQ l (i:Int) l.length)):=d3
 subst b7
 have c9:=c8.trans a2
 obtain⟨Zb,g6,a9,g1,f7,e0,a3,c2,d4⟩:=aH (x:=((n,l),(i:Int))) c1 tS (⟨⟨_,_,rfl,AP.Ext (R:=(eD 87)) href c9,rfl⟩,hokM⟩)
 have e7:=a3.old e5
 have b8:Zb=(i64 (aQ l (i:Int) l.length)):=d4
 subst b8
 have d0:=c9.trans a3
 obtain⟨g4,g7,b0,g2,f8,e1,a4,c3,d5⟩:=aH (x:=((n,l),(i:Int))) c2 tS (⟨⟨_,_,rfl,AP.Ext (R:=(eD 87)) href d0,rfl⟩,hokM⟩)
 have e8:=a4.old e7
 have b9:g4=(i64 (aQ l (i:Int) l.length)):=d5
 subst b9
 have d1:=d0.trans a4
 obtain⟨w49,g8,b1,g3,f9,e2,a5,c4,d6⟩:=aH (x:=((n,l),(i:Int))) c3 tS (⟨⟨_,_,rfl,AP.Ext (R:=(eD 87)) href d1,rfl⟩,hokM⟩)
 have e9:=a5.old e8
 have c0:w49=(i64 (aQ l (i:Int) l.length)):=d6
 subst c0
 have d7:=d1.trans a5
 obtain⟨b3,b2,b4,b5,f0,a6,c5⟩:=bG c4 ⟨[.bool (decide ((IntKind.wrap .i64 ((IntKind.wrap .i64 ((IntKind.wrap .i64 ((IntKind.wrap .i64 ((IntKind.wrap .i64 ((0:Int)+(fZ ((aQ l (i:Int) l.length).fdiv (2^(0:Int).toNat)) (1:Int))))+(fZ ((aQ l (i:Int) l.length).fdiv (2^(1:Int).toNat)) (1:Int))))+(fZ ((aQ l (i:Int) l.length).fdiv (2^(2:Int).toNat)) (1:Int))))+(fZ ((aQ l (i:Int) l.length).fdiv (2^(3:Int).toNat)) (1:Int))))+(fZ ((aQ l (i:Int) l.length).fdiv (2^(4:Int).toNat)) (1:Int))))>=(2:Int)))],4,1,0,true⟩
 have f1:=a6.old e9
 have d2:=d7.trans a6
 obtain⟨b71,a1,a0,b6,f2,a7,c6⟩:=bG c5 ⟨[.bool (decide ((IntKind.wrap .i64 ((IntKind.wrap .i64 ((IntKind.wrap .i64 ((IntKind.wrap .i64 ((IntKind.wrap .i64 ((0:Int)+(fZ ((aQ l (i:Int) l.length).fdiv (2^(0:Int).toNat)) (1:Int))))+(fZ ((aQ l (i:Int) l.length).fdiv (2^(1:Int).toNat)) (1:Int))))+(fZ ((aQ l (i:Int) l.length).fdiv (2^(2:Int).toNat)) (1:Int))))+(fZ ((aQ l (i:Int) l.length).fdiv (2^(3:Int).toNat)) (1:Int))))+(fZ ((aQ l (i:Int) l.length).fdiv (2^(4:Int).toNat)) (1:Int))))>=(2:Int)))],4,1,0,true⟩
 have c7:M0.next<=b71:=by rw[<-a0];exact d2.next
 have f3:=a7.old f1
 have d8:=d2.trans a7
 have hkp: ∀id k,M.get id=some k->id≠b->a1.get id=some k:=fun id k g h_b=>by
  have g:=E7.old g
  have g:=a2.old g
  have g:=a3.old g
  have g:=a4.old g
  have g:=a5.old g
  have g:=a6.old g
  have g:=a7.old g
  exact g
 obtain⟨T1,h1,h2⟩:=Rd.told (tb:=[]) (n:=100) (F:=[aU 5 (i64 (n:Int)),aM 8,bL 25 (i64 (aQ l (i:Int) l.length)) M3,aM 29,bL 54 (i64 (aQ l (i:Int) l.length)) a8,aM 58,bL 83 (i64 (aQ l (i:Int) l.length)) a9,aM 87,bL 112 (i64 (aQ l (i:Int) l.length)) b0,aM 116,bL 141 (i64 (aQ l (i:Int) l.length)) b1,aM 145,bL 170 (aD b3 0 1 2) b2,.at 172 (1,.val (aD b71 0 1 1),a1)]) aJ aI (fun B=>lO (gF 62 Q62 (gQ _))) (fun _ _=>rfl) (by kernel_rfl) (hk (lC (o:=0) cO gb rfl) (hk (bT cc0) (hq (qC 62 [pt rb 0,i64 (i:Int)] M (i64 (aQ l (i:Int) l.length)) M3) (aN rfl p4 l5 e6) (hk (qI (0:Int) 64 (by decide) (by decide)) (hq (qC 62 [pt rb 0,i64 (i:Int)] M3 (i64 (aQ l (i:Int) l.length)) a8) (aN rfl g0 f6 d9) (hk (qI (1:Int) 64 (by decide) (by decide)) (hq (qC 62 [pt rb 0,i64 (i:Int)] a8 (i64 (aQ l (i:Int) l.length)) a9) (aN rfl g1 f7 e0) (hk (qI (2:Int) 64 (by decide) (by decide)) (hq (qC 62 [pt rb 0,i64 (i:Int)] a9 (i64 (aQ l (i:Int) l.length)) b0) (aN rfl g2 f8 e1) (hk (qI (3:Int) 64 (by decide) (by decide)) (hq (qC 62 [pt rb 0,i64 (i:Int)] b0 (i64 (aQ l (i:Int) l.length)) b1) (aN rfl g3 f9 e2) (hk (qI (4:Int) 64 (by decide) (by decide)) (hq (.eq (bE Try.prog 35 1 [(0,(.bool (decide ((IntKind.wrap .i64 ((IntKind.wrap .i64 ((IntKind.wrap .i64 ((IntKind.wrap .i64 ((IntKind.wrap .i64 ((0:Int)+(fZ ((aQ l (i:Int) l.length).fdiv (2^(0:Int).toNat)) (1:Int))))+(fZ ((aQ l (i:Int) l.length).fdiv (2^(1:Int).toNat)) (1:Int))))+(fZ ((aQ l (i:Int) l.length).fdiv (2^(2:Int).toNat)) (1:Int))))+(fZ ((aQ l (i:Int) l.length).fdiv (2^(3:Int).toNat)) (1:Int))))+(fZ ((aQ l (i:Int) l.length).fdiv (2^(4:Int).toNat)) (1:Int))))>=(2:Int)))))] b1) (1,.val (aD b3 0 1 2),b2)) (bZ (by rw[<-b4,<-b5];kernel_rfl) Nat.one_ne_zero) (hq (.q (.append [35,35] cI (aD b3 0 1 2) b2) (1,.val (aD b71 0 1 1),a1)) (jD (by rw[<-a0,<-b6];exact append_nil (w:=1) (by kernel_rfl) (by kernel_rfl) (y:=1) (by kernel_rfl) (by decide) (by decide) f0 rfl rfl rfl) Nat.one_ne_zero) hn))))))))))))))
 exact⟨T1,a1,b71,h1,h2,d8,c6,f3,c7,f2,hkp⟩
theorem r11x(b rb n i:Nat)(S vl:Value){M:aA}(gb:M.get b=some ⟨[i64 n,vl],26,2,0,true⟩)(cc0:(decide ((i:Int)<(n:Int)))=false): ∃T1,Rd Try.prog [] (q32.loopAt 0) Try.f32.ntmps (fr [(1,(pt b 0)),(3,(pt rb 0)),(4,S),(5,(i64 (i:Int)))]) M (.exit 0) T1 M/\ [4].map T1.get= [some S]:=by
 exact Rd.told (tb:=[]) (n:=60) (F:=[aU 5 (i64 (n:Int)),aO 8]) aJ aI (aG Try.prog) (fun _ _=>rfl) (by kernel_rfl) (hk (lC (o:=0) cO gb rfl) (hk (bF cc0) hn))
theorem r11G(b rb n i:Nat)(vl:Value)(l:List E4)(r k:Nat)(cr:List Value){M M0:aA}(hM:aB M)(X0:Ext M0 M)(gb:M.get b=some ⟨[i64 n,vl],26,2,0,true⟩)(href:eD 87 (n,l) (pt rb 0) M0)(hokM: ∀e∈l,Dc e)(hr:M0.next<=r)(gr:M.get r=some ⟨cr,4,1,0,true⟩)(hbr:b≠r)(cc0:(decide ((i:Int)<(n:Int)))=true)(hg0:k<1073741824/\(cr).length=k*1): ∃T1 M' b79,Rd Try.prog [] (q32.loopAt 0) Try.f32.ntmps (fr [(1,(pt b 0)),(3,(pt rb 0)),(4,(aD r 0 k k)),(5,(i64 (i:Int)))]) M .normal T1 M'/\ [1,3,4,5].map T1.get= [some (pt b 0),some (pt rb 0),some (aD b79 0 (k+1) (k+1)),some (i64 (IntKind.wrap .i64 ((i:Int)+(1:Int))))]/\Ext M0 M'/\aB M'/\M'.get b=some ⟨[i64 (n:Int),vl],26,2,0,true⟩/\M0.next<=b79/\M'.get b79=some ⟨cr++ [.bool (decide ((IntKind.wrap .i64 ((IntKind.wrap .i64 ((IntKind.wrap .i64 ((IntKind.wrap .i64 ((IntKind.wrap .i64 ((0:Int)+(fZ ((aQ l (i:Int) l.length).fdiv (2^(0:Int).toNat)) (1:Int))))+(fZ ((aQ l (i:Int) l.length).fdiv (2^(1:Int).toNat)) (1:Int))))+(fZ ((aQ l (i:Int) l.length).fdiv (2^(2:Int).toNat)) (1:Int))))+(fZ ((aQ l (i:Int) l.length).fdiv (2^(3:Int).toNat)) (1:Int))))+(fZ ((aQ l (i:Int) l.length).fdiv (2^(4:Int).toNat)) (1:Int))))>=(2:Int)))],4,1,0,true⟩/\ ∀id k,M.get id=some k->id≠b->id≠r->M'.get id=some k:=by
 obtain⟨w1,N2,M3,p4,l5,e6,E7,g1,F9⟩:=aH (x:=((n,l),(i:Int))) hM tS (⟨⟨_,_,rfl,AP.Ext (R:=(eD 87)) href X0,rfl⟩,hokM⟩)
 have e5:=E7.old gb
 have e7:=E7.old gr
 have e4:w1=(i64 (aQ l (i:Int) l.length)):=F9
 subst e4
 have c8:=X0.trans E7
 obtain⟨w14,h5,a8,g6,g2,e0,a2,c1,d4⟩:=aH (x:=((n,l),(i:Int))) g1 tS (⟨⟨_,_,rfl,AP.Ext (R:=(eD 87)) href c8,rfl⟩,hokM⟩)
 have e8:=a2.old e5
 have e9:=a2.old e7
 have b7:w14=(i64 (aQ l (i:Int) l.length)):=d4
 subst b7
 have c9:=c8.trans a2
 obtain⟨h0,h6,a9,g7,g3,e1,a3,c2,d5⟩:=aH (x:=((n,l),(i:Int))) c1 tS (⟨⟨_,_,rfl,AP.Ext (R:=(eD 87)) href c9,rfl⟩,hokM⟩)
 have f0:=a3.old e8
 have f1:=a3.old e9
 have b8:h0=(i64 (aQ l (i:Int) l.length)):=d5
 subst b8
 have d0:=c9.trans a3
 obtain⟨h3,h7,b0,g8,g4,e2,a4,c3,d6⟩:=aH (x:=((n,l),(i:Int))) c2 tS (⟨⟨_,_,rfl,AP.Ext (R:=(eD 87)) href d0,rfl⟩,hokM⟩)
 have f2:=a4.old f0
 have f3:=a4.old f1
 have b9:h3=(i64 (aQ l (i:Int) l.length)):=d6
 subst b9
 have d1:=d0.trans a4
 obtain⟨h4,h8,b1,g9,g5,e3,a5,c4,d7⟩:=aH (x:=((n,l),(i:Int))) c3 tS (⟨⟨_,_,rfl,AP.Ext (R:=(eD 87)) href d1,rfl⟩,hokM⟩)
 have f5:=a5.old f2
 have f6:=a5.old f3
 have c0:h4=(i64 (aQ l (i:Int) l.length)):=d7
 subst c0
 have d8:=d1.trans a5
 obtain⟨b3,b2,b4,b5,f7,a6,c5⟩:=bG c4 ⟨[.bool (decide ((IntKind.wrap .i64 ((IntKind.wrap .i64 ((IntKind.wrap .i64 ((IntKind.wrap .i64 ((IntKind.wrap .i64 ((0:Int)+(fZ ((aQ l (i:Int) l.length).fdiv (2^(0:Int).toNat)) (1:Int))))+(fZ ((aQ l (i:Int) l.length).fdiv (2^(1:Int).toNat)) (1:Int))))+(fZ ((aQ l (i:Int) l.length).fdiv (2^(2:Int).toNat)) (1:Int))))+(fZ ((aQ l (i:Int) l.length).fdiv (2^(3:Int).toNat)) (1:Int))))+(fZ ((aQ l (i:Int) l.length).fdiv (2^(4:Int).toNat)) (1:Int))))>=(2:Int)))],4,1,0,true⟩
 have d3:=a6.old f5
 have f8:=a6.old f6
 have d2:=d8.trans a6
 obtain⟨b79,a7,a0,b6,f9,d9,c6,a1⟩:=rZ d2 hr c5 ⟨cr++ [.bool (decide ((IntKind.wrap .i64 ((IntKind.wrap .i64 ((IntKind.wrap .i64 ((IntKind.wrap .i64 ((IntKind.wrap .i64 ((0:Int)+(fZ ((aQ l (i:Int) l.length).fdiv (2^(0:Int).toNat)) (1:Int))))+(fZ ((aQ l (i:Int) l.length).fdiv (2^(1:Int).toNat)) (1:Int))))+(fZ ((aQ l (i:Int) l.length).fdiv (2^(2:Int).toNat)) (1:Int))))+(fZ ((aQ l (i:Int) l.length).fdiv (2^(3:Int).toNat)) (1:Int))))+(fZ ((aQ l (i:Int) l.length).fdiv (2^(4:Int).toNat)) (1:Int))))>=(2:Int)))],4,1,0,true⟩
 have c7:M0.next<=b79:=by rw[<-a0];exact d2.next
 have g0:=(a1 _ hbr (aA.lt_of_get d3)).trans d3
 have hkp: ∀id k,M.get id=some k->id≠b->id≠r->a7.get id=some k:=fun id k g h_b h_r=>by
  have g:=E7.old g
  have g:=a2.old g
  have g:=a3.old g
  have g:=a4.old g
  have g:=a5.old g
  have g:=a6.old g
  have g:=(a1 id h_r (aA.lt_of_get g)).trans g
  exact g
 obtain⟨T1,h1,h2⟩:=Rd.told (tb:=[]) (n:=100) (F:=[aU 5 (i64 (n:Int)),aM 8,bL 25 (i64 (aQ l (i:Int) l.length)) M3,aM 29,bL 54 (i64 (aQ l (i:Int) l.length)) a8,aM 58,bL 83 (i64 (aQ l (i:Int) l.length)) a9,aM 87,bL 112 (i64 (aQ l (i:Int) l.length)) b0,aM 116,bL 141 (i64 (aQ l (i:Int) l.length)) b1,aM 145,bL 170 (aD b3 0 1 2) b2,.at 172 (2,.val (aD b79 0 (k+1) (k+1)),a7)]) aJ aI (fun B=>lO (gF 62 Q62 (gQ _))) (fun _ _=>rfl) (by kernel_rfl) (hk (lC (o:=0) cO gb rfl) (hk (bT cc0) (hq (qC 62 [pt rb 0,i64 (i:Int)] M (i64 (aQ l (i:Int) l.length)) M3) (aN rfl p4 l5 e6) (hk (qI (0:Int) 64 (by decide) (by decide)) (hq (qC 62 [pt rb 0,i64 (i:Int)] M3 (i64 (aQ l (i:Int) l.length)) a8) (aN rfl g6 g2 e0) (hk (qI (1:Int) 64 (by decide) (by decide)) (hq (qC 62 [pt rb 0,i64 (i:Int)] a8 (i64 (aQ l (i:Int) l.length)) a9) (aN rfl g7 g3 e1) (hk (qI (2:Int) 64 (by decide) (by decide)) (hq (qC 62 [pt rb 0,i64 (i:Int)] a9 (i64 (aQ l (i:Int) l.length)) b0) (aN rfl g8 g4 e2) (hk (qI (3:Int) 64 (by decide) (by decide)) (hq (qC 62 [pt rb 0,i64 (i:Int)] b0 (i64 (aQ l (i:Int) l.length)) b1) (aN rfl g9 g5 e3) (hk (qI (4:Int) 64 (by decide) (by decide)) (hq (.eq (bE Try.prog 35 1 [(0,(.bool (decide ((IntKind.wrap .i64 ((IntKind.wrap .i64 ((IntKind.wrap .i64 ((IntKind.wrap .i64 ((IntKind.wrap .i64 ((0:Int)+(fZ ((aQ l (i:Int) l.length).fdiv (2^(0:Int).toNat)) (1:Int))))+(fZ ((aQ l (i:Int) l.length).fdiv (2^(1:Int).toNat)) (1:Int))))+(fZ ((aQ l (i:Int) l.length).fdiv (2^(2:Int).toNat)) (1:Int))))+(fZ ((aQ l (i:Int) l.length).fdiv (2^(3:Int).toNat)) (1:Int))))+(fZ ((aQ l (i:Int) l.length).fdiv (2^(4:Int).toNat)) (1:Int))))>=(2:Int)))))] b1) (1,.val (aD b3 0 1 2),b2)) (bZ (by rw[<-b4,<-b5];kernel_rfl) Nat.one_ne_zero) (hq (.q (.append [35,35] (aD r 0 k k) (aD b3 0 1 2) b2) (2,.val (aD b79 0 (k+1) (k+1)),a7)) (jD (by rw[<-a0,<-b6];exact jJ (w:=1) (by kernel_rfl) (by kernel_rfl) (by kernel_rfl) (y:=1) (by kernel_rfl) (by decide) (by decide) hg0.1 f7 rfl rfl rfl f8 hg0.2 rfl rfl rfl rfl) (Nat.succ_ne_zero _)) hn))))))))))))))
 exact⟨T1,a7,b79,h1,h2,d9,c6,g0,c7,f9,hkp⟩
theorem Vn{b rb n:Nat}{vl:Value}{l:List E4}{M:aA}(hM:aB M)(gb:M.get b=some ⟨[i64 n,vl],26,2,0,true⟩)(href:eD 87 (n,l) (pt rb 0) M)(hok: ∀e∈l,Dc e)(hn:n<=60):
  ∃S M',bJ Try.prog [] (q32.loopAt 0) Try.f32.ntmps (fr [(1,pt b 0),(3,pt rb 0),(4,cI),(5,i64 ((0:Nat):Int))]) M (.exit 0) (fr [(4,S)]) M'/\Ext M M'/\aB M'/\Om M M' S (gA l n):=by
 have hb:=aA.lt_of_get gb
 obtain⟨S,M',h1,h2,h3,_,h4⟩:=bJ.for (P:=Try.prog) (GL:= []) (b:=q32.loopAt 0) (nt:=Try.f32.ntmps) (id:=0) (σ:=Value) (n:=n) (Inv:=fun i S M1=>Ext M M1/\aB M1/\M1.get b=some ⟨[i64 n,vl],26,2,0,true⟩/\Om M M1 S (gA l i))
  (F:=fun i S=> [(1,pt b 0),(3,pt rb 0),(4,S),(5,i64 ((i:Nat):Int))])
  (O:=fun S=> [(4,S)])
  (by
   rintro i S M1 hi ⟨X1,a1,a0,hA⟩
   rw[Iu]
   rcases hA with⟨rfl,h0⟩|⟨r,rfl,h0,hr,hg⟩
   ·obtain⟨T1,M2,b2,h1,h2,h3,h4,h5,h6,h7,_⟩:=r11N b rb n i vl l a1 X1 a0 href hok (decide_eq_true (by omega))
    rw[aY (by omega)] at h2
    exact⟨_,T1,M2,h1,h2,h3,h4,h5,.inr ⟨b2,by rw[h0];rfl,by simp,h6,by rw[h7,h0];rfl⟩⟩
   ·have hlen:(gA l i).length=i:=by simp [gA]
    obtain⟨T1,M2,b2,h1,h2,h3,h4,h5,h6,h7,_⟩:=r11G b rb n i vl l r (gA l i).length _ a1 X1 a0 href hok hr hg (by omega) (decide_eq_true (by omega)) ⟨by omega,by simp⟩
    rw[aY (by omega)] at h2
    exact⟨_,T1,M2,h1,h2,h3,h4,h5,.inr ⟨b2,by rw[List.length_append];rfl,by simp,h6,by rw[h7,List.map_append];rfl⟩⟩)
  (by
   rintro S M1 ⟨X1,a1,a0,_⟩
   obtain⟨T1,h1,h2⟩:=r11x b rb n n S vl a0 (decide_eq_false (by omega))
   exact⟨T1,h1,h2⟩)
  n 0 (by omega) (s:=cI) (M:=M) ⟨Ext.refl M,hM,gb,.inl ⟨rfl,rfl⟩⟩
 exact⟨S,M',h1,h2,h3,h4⟩
theorem rK32:Try.f32.results= #[.tmp 2]:=by kernel_rfl
theorem w11(n:Nat)(al:Option Addr)(cl:Nat)(l:List E4){M:aA}(hM:aB M)(hl:aV l (.slice al l.length cl) M)(hokM: ∀e∈l,Dc e)(hn60:n<=60): ∃v_ M',Ev Try.prog [] 32 [.agg ⟨[i64 (n:Int),.slice al l.length cl]⟩] M v_ M'/\Ext M M'/\aB M'/\fG qY (gA l n) M.next v_ M':=by
 obtain⟨b1,M2,b7,b8,g5,E6,c0⟩:=bG hM ⟨[i64 (n:Int),.slice al l.length cl],26,2,0,true⟩
 have X9:=(Ext.refl M).trans E6
 obtain⟨c3,c4,a1,c2,c1,b6,a8,a6,b4⟩:=aH (x:=(n,l)) c0 Tx (⟨_,rfl,_,rfl,AP.Ext (R:=aV) hl X9⟩)
 have b9:=a8.old g5
 have a9:eD 87 (n,l) c3 a1:=b4
 obtain⟨a0,_,a4,_⟩:=id a9
 subst a4
 have b0:=X9.trans a8
 obtain⟨a3,a2,a5,b3,a7,b2⟩:=Vn a6 b9 a9 hokM hn60
 have b5:=b0.trans b3
 exact⟨a3,a2,Ev.told_tmp (tb:=[0]) (n:=60) (F:=[bL 1 (pt b1 0) M2,aU 5 (.agg ⟨[i64 (n:Int),.slice al l.length cl]⟩),bL 7 (pt a0 0) a1,.blk 14 [1,3,4,5] .normal (fr [(4,a3)]) a2]) aJ aI Try.func32 Xh (by kernel_rfl) rK32 (fun B=>zN (gF 31 Q31 (gQ _)) 0 a5) (fun _ h=>cF h) (by kernel_rfl) (hq (.eq (fE Try.prog 26 (.agg ⟨[i64 (n:Int),.slice al l.length cl]⟩) M) (1,.val (pt b1 0),M2)) (bZ (by rw[<-b7,<-b8];kernel_rfl) Nat.one_ne_zero) (hq (qL 26 b1 0 M2 (.agg ⟨[i64 (n:Int),.slice al l.length cl]⟩)) (lA ⟨rW,pS⟩ g5 rfl) (hq (qC 31 [.agg ⟨[i64 (n:Int),.slice al l.length cl]⟩] M2 (pt a0 0) a1) (aN rfl c2 c1 b6) (hq (.blk 0 (.loop (q32.loopAt 0)) Try.f32.ntmps [1,3,4,5] [some (pt b1 0),some (pt a0 0),some cI,some (i64 0)] a1 .normal (fr [(4,a3)]) a2) (fH rfl) hn)))),b5,a7,Om.new b2 (by simp [gA];omega) (b0).next⟩
abbrev Q32:=FC (iG (tL jC) fun x=>eP (x.1:Int) x.2=true) (fG qY) (fun x=>gA x.2 x.1)
theorem Zz{x:Nat×List E4}{lv:List Value}{M:aA}(hM:aB M)(h:(iG (tL jC) fun x:Nat×List E4=>eP (x.1:Int) x.2=true) x lv M): ∃v M',lQ Try.prog [] 32 Q32 lv M v M':=by
 refine FC.con h ?_
 obtain⟨⟨g0,rfl,k0⟩,hck⟩:=h
 obtain⟨n,l⟩:=x
 obtain⟨_,rfl,hl⟩:=k0
 obtain⟨a,c,rfl⟩:=aK.form hl
 obtain⟨v,M',h1,h2,_,h3⟩:=w11 n a c l hM hl (fun e he=>((eZ hck).2.2.2 e he).2.2.2.2) (by have:=(eZ hck).2.1;simp only at this⊢;omega)
 exact⟨v,M',h1,h2,h3⟩
theorem r14LQ(b rb n d bi oi ci i:Nat)(q:Bool)(vl:Value)(l:List E4)(S:Value){M:aA}{M0:aA}(X0:Ext M0 M)(gb:M.get b=some ⟨[i64 n,vl],26,2,0,true⟩)(href:eD 87 (n,l) (pt rb 0) M0)(hl400:l.length<=400)(cc0:(decide ((i:Int)<(n:Int)))=true)(cc1:(q)=true)(hld0:aX Try.prog 4 ⟨bi,oi+((i:Int):Int).toNat*1,none⟩ M0=some (.bool q)): ∃T1,Rd Try.prog [] (q14.loopAt 2) Try.f14.ntmps (fr [(1,(pt b 0)),(3,(pt rb 0)),(4,(aD bi oi n ci)),(5,S),(6,(i64 (d:Int))),(7,(i64 (i:Int)))]) M .normal T1 M/\ [1,3,4,5,6,7].map T1.get= [some (pt b 0),some (pt rb 0),some (aD bi oi n ci),some S,some (i64 (d:Int)),some (i64 (IntKind.wrap .i64 ((i:Int)+(1:Int))))]:=by
 exact Rd.told (tb:=[]) (n:=60) (F:=[aU 5 (i64 (n:Int)),aM 8,aM 14,aU 16 (.bool q),aO 21,aO 23,aO 25,aO 27,aO 29,aO 31,aO 33,aO 35,aO 37,aO 39,aO 41,aO 44]) aJ aI (aG Try.prog) (fun _ _=>rfl) (by kernel_rfl) (hk (lC (o:=0) cO gb rfl) (hk (bT cc0) (hk (qI (i:Int) n (by omega) (by simp at cc0;omega)) (hk (lD (aE X0 hld0)) (hk (bF (x:=!(q)) (by rw[cc1];rfl)) (hk (bF (x:=!(q)) (by rw[cc1];rfl)) (hk (bF (x:=!(q)) (by rw[cc1];rfl)) (hk (bF (x:=!(q)) (by rw[cc1];rfl)) (hk (bF (x:=!(q)) (by rw[cc1];rfl)) (hk (bF (x:=!(q)) (by rw[cc1];rfl)) (hk (bF (x:=!(q)) (by rw[cc1];rfl)) (hk (bF (x:=!(q)) (by rw[cc1];rfl)) (hk (bF (x:=!(q)) (by rw[cc1];rfl)) (hk (bF (x:=!(q)) (by rw[cc1];rfl)) (hk (bF (x:=!(q)) (by rw[cc1];rfl)) (hk (bF (x:=!(q)) (by rw[cc1];rfl)) hn))))))))))))))))
theorem r14LS(b rb n d bi oi ci i:Nat)(q:Bool)(vl:Value)(l:List E4)(S:Value){M M0:aA}(hM:aB M)(X0:Ext M0 M)(gb:M.get b=some ⟨[i64 n,vl],26,2,0,true⟩)(href:eD 87 (n,l) (pt rb 0) M0)(hl400:l.length<=400)(cc0:(decide ((i:Int)<(n:Int)))=true)(cc1:(q)=false)(cc2:((IntKind.wrap .i64 ((((bQ .fr l (i:Int) l.length).length:Nat):Int)+(((bQ .to l (i:Int) l.length).length:Nat):Int)))==(d:Int))=false)(hld0:aX Try.prog 4 ⟨bi,oi+((i:Int):Int).toNat*1,none⟩ M0=some (.bool q)): ∃T1 M',Rd Try.prog [] (q14.loopAt 2) Try.f14.ntmps (fr [(1,(pt b 0)),(3,(pt rb 0)),(4,(aD bi oi n ci)),(5,S),(6,(i64 (d:Int))),(7,(i64 (i:Int)))]) M .normal T1 M'/\ [1,3,4,5,6,7].map T1.get= [some (pt b 0),some (pt rb 0),some (aD bi oi n ci),some S,some (i64 (d:Int)),some (i64 (IntKind.wrap .i64 ((i:Int)+(1:Int))))]/\Ext M0 M'/\aB M'/\M'.get b=some ⟨[i64 (n:Int),vl],26,2,0,true⟩/\ ∀id k,M.get id=some k->id≠b->M'.get id=some k:=by
 obtain⟨w4,N5,M6,p7,l8,e9,a3,a6,b3⟩:=aH (x:=((n,l),(i:Int))) hM Pl (⟨⟨_,_,rfl,AP.Ext (R:=(eD 87)) href X0,rfl⟩,hl400⟩)
 have b8:=a3.old gb
 have G3:aP (bQ .fr l (i:Int) l.length) w4 M6:=fG.out (R:=aP) b3
 obtain⟨a1,c2,b7⟩:=aK.form G3
 subst b7
 have a8:=aK.ln G3
 have b0:=X0.trans a3
 obtain⟨c3,c4,a0,c1,c0,b6,a4,a7,b4⟩:=aH (x:=((n,l),(i:Int))) a6 Pm (⟨⟨_,_,rfl,AP.Ext (R:=(eD 87)) href b0,rfl⟩,hl400⟩)
 have b9:=a4.old b8
 have a9:aP (bQ .to l (i:Int) l.length) c3 a0:=fG.out (R:=aP) b4
 obtain⟨b1,b2,a5⟩:=aK.form a9
 subst a5
 have a2:=aK.ln a9
 have b5:=b0.trans a4
 have hkp: ∀id k,M.get id=some k->id≠b->a0.get id=some k:=fun id k g h_b=>by
  have g:=a3.old g
  have g:=a4.old g
  exact g
 obtain⟨T1,h1,h2⟩:=Rd.told (tb:=[]) (n:=60) (F:=[aU 5 (i64 (n:Int)),aM 8,aM 14,aU 16 (.bool q),aM 21,aM 23,aM 25,bL 26 (.slice a1 (bQ .fr l (i:Int) l.length).length c2) M6,aM 27,aM 28,aM 29,aM 31,aM 33,bL 34 (.slice b1 (bQ .to l (i:Int) l.length).length b2) a0,aM 35,aM 36,aM 37,aM 39,aM 41,aM 44,aO 45]) aJ aI (fun B=>lO (gF 33 Q33 (gF 34 Q34 (gQ _)))) (fun _ _=>rfl) (by kernel_rfl) (hk (lC (o:=0) cO gb rfl) (hk (bT cc0) (hk (qI (i:Int) n (by omega) (by simp at cc0;omega)) (hk (lD (aE X0 hld0)) (hk (bT (x:=!(q)) (by rw[cc1];rfl)) (hk (bT (x:=!(q)) (by rw[cc1];rfl)) (hk (bT (x:=!(q)) (by rw[cc1];rfl)) (hq (qC 33 [pt rb 0,i64 (i:Int)] M (.slice a1 (bQ .fr l (i:Int) l.length).length c2) M6) (aN rfl p7 l8 e9) (hk (bT (x:=!(q)) (by rw[cc1];rfl)) (hk (lN a8) (hk (bT (x:=!(q)) (by rw[cc1];rfl)) (hk (bT (x:=!(q)) (by rw[cc1];rfl)) (hk (bT (x:=!(q)) (by rw[cc1];rfl)) (hq (qC 34 [pt rb 0,i64 (i:Int)] M6 (.slice b1 (bQ .to l (i:Int) l.length).length b2) a0) (aN rfl c1 c0 b6) (hk (bT (x:=!(q)) (by rw[cc1];rfl)) (hk (lN a2) (hk (bT (x:=!(q)) (by rw[cc1];rfl)) (hk (bT (x:=!(q)) (by rw[cc1];rfl)) (hk (bT (x:=!(q)) (by rw[cc1];rfl)) (hk (bT (x:=!(q)) (by rw[cc1];rfl)) (hk (bF cc2) hn)))))))))))))))))))))
 exact⟨T1,a0,h1,h2,b5,a7,b9,hkp⟩
theorem r14x(b rb n d i bi oi ci:Nat)(S vl:Value){M:aA}(gb:M.get b=some ⟨[i64 n,vl],26,2,0,true⟩)(cc0:(decide ((i:Int)<(n:Int)))=false): ∃T1,Rd Try.prog [] (q14.loopAt 2) Try.f14.ntmps (fr [(1,(pt b 0)),(3,(pt rb 0)),(4,(aD bi oi n ci)),(5,S),(6,(i64 (d:Int))),(7,(i64 (i:Int)))]) M (.exit 2) T1 M/\ [1,3,4,5,6].map T1.get= [some (pt b 0),some (pt rb 0),some (aD bi oi n ci),some S,some (i64 (d:Int))]:=by
 exact Rd.told (tb:=[]) (n:=60) (F:=[aU 5 (i64 (n:Int)),aO 8]) aJ aI (aG Try.prog) (fun _ _=>rfl) (by kernel_rfl) (hk (lC (o:=0) cO gb rfl) (hk (bF cc0) hn))
theorem r14NA(b rb n d bi oi ci i:Nat)(q:Bool)(vl:Value)(l:List E4){M M0:aA}(hM:aB M)(X0:Ext M0 M)(gb:M.get b=some ⟨[i64 n,vl],26,2,0,true⟩)(href:eD 87 (n,l) (pt rb 0) M0)(hl400:l.length<=400)(cc0:(decide ((i:Int)<(n:Int)))=true)(cc1:(q)=false)(cc2:((IntKind.wrap .i64 ((((bQ .fr l (i:Int) l.length).length:Nat):Int)+(((bQ .to l (i:Int) l.length).length:Nat):Int)))==(d:Int))=true)(hld0:aX Try.prog 4 ⟨bi,oi+((i:Int):Int).toNat*1,none⟩ M0=some (.bool q)): ∃T1 M' b41,Rd Try.prog [] (q14.loopAt 2) Try.f14.ntmps (fr [(1,(pt b 0)),(3,(pt rb 0)),(4,(aD bi oi n ci)),(5,cI),(6,(i64 (d:Int))),(7,(i64 (i:Int)))]) M .normal T1 M'/\ [1,3,4,5,6,7].map T1.get= [some (pt b 0),some (pt rb 0),some (aD bi oi n ci),some (aD b41 0 1 1),some (i64 (d:Int)),some (i64 (IntKind.wrap .i64 ((i:Int)+(1:Int))))]/\Ext M0 M'/\aB M'/\M'.get b=some ⟨[i64 (n:Int),vl],26,2,0,true⟩/\M0.next<=b41/\M'.get b41=some ⟨[i64 (i:Int)],3,1,0,true⟩/\ ∀id k,M.get id=some k->id≠b->M'.get id=some k:=by
 obtain⟨w4,N5,M6,p7,l8,e9,a5,b5,c7⟩:=aH (x:=((n,l),(i:Int))) hM Pl (⟨⟨_,_,rfl,AP.Ext (R:=(eD 87)) href X0,rfl⟩,hl400⟩)
 have d3:=a5.old gb
 have G3:aP (bQ .fr l (i:Int) l.length) w4 M6:=fG.out (R:=aP) c7
 obtain⟨a1,c2,d2⟩:=aK.form G3
 subst d2
 have b9:=aK.ln G3
 have c3:=X0.trans a5
 obtain⟨e1,e2,a3,e0,d9,d1,a6,b6,c8⟩:=aH (x:=((n,l),(i:Int))) b5 Pm (⟨⟨_,_,rfl,AP.Ext (R:=(eD 87)) href c3,rfl⟩,hl400⟩)
 have d4:=a6.old d3
 have c1:aP (bQ .to l (i:Int) l.length) e1 a3:=fG.out (R:=aP) c8
 obtain⟨c5,c6,b4⟩:=aK.form c1
 subst b4
 have a2:=aK.ln c1
 have c9:=c3.trans a6
 obtain⟨b0,a9,b1,b2,d5,a7,b7⟩:=bG b6 ⟨[i64 (i:Int)],3,1,0,true⟩
 have d6:=a7.old d4
 have c4:=c9.trans a7
 obtain⟨b41,a4,a0,b3,d7,a8,b8⟩:=bG b7 ⟨[i64 (i:Int)],3,1,0,true⟩
 have c0:M0.next<=b41:=by rw[<-a0];exact c4.next
 have d8:=a8.old d6
 have d0:=c4.trans a8
 have hkp: ∀id k,M.get id=some k->id≠b->a4.get id=some k:=fun id k g h_b=>by
  have g:=a5.old g
  have g:=a6.old g
  have g:=a7.old g
  have g:=a8.old g
  exact g
 obtain⟨T1,h1,h2⟩:=Rd.told (tb:=[]) (n:=60) (F:=[aU 5 (i64 (n:Int)),aM 8,aM 14,aU 16 (.bool q),aM 21,aM 23,aM 25,bL 26 (.slice a1 (bQ .fr l (i:Int) l.length).length c2) M6,aM 27,aM 28,aM 29,aM 31,aM 33,bL 34 (.slice c5 (bQ .to l (i:Int) l.length).length c6) a3,aM 35,aM 36,aM 37,aM 39,aM 41,aM 44,aM 45,bL 51 (aD b0 0 1 2) a9,.at 53 (1,.val (aD b41 0 1 1),a4)]) aJ aI (fun B=>lO (gF 33 Q33 (gF 34 Q34 (gQ _)))) (fun _ _=>rfl) (by kernel_rfl) (hk (lC (o:=0) cO gb rfl) (hk (bT cc0) (hk (qI (i:Int) n (by omega) (by simp at cc0;omega)) (hk (lD (aE X0 hld0)) (hk (bT (x:=!(q)) (by rw[cc1];rfl)) (hk (bT (x:=!(q)) (by rw[cc1];rfl)) (hk (bT (x:=!(q)) (by rw[cc1];rfl)) (hq (qC 33 [pt rb 0,i64 (i:Int)] M (.slice a1 (bQ .fr l (i:Int) l.length).length c2) M6) (aN rfl p7 l8 e9) (hk (bT (x:=!(q)) (by rw[cc1];rfl)) (hk (lN b9) (hk (bT (x:=!(q)) (by rw[cc1];rfl)) (hk (bT (x:=!(q)) (by rw[cc1];rfl)) (hk (bT (x:=!(q)) (by rw[cc1];rfl)) (hq (qC 34 [pt rb 0,i64 (i:Int)] M6 (.slice c5 (bQ .to l (i:Int) l.length).length c6) a3) (aN rfl e0 d9 d1) (hk (bT (x:=!(q)) (by rw[cc1];rfl)) (hk (lN a2) (hk (bT (x:=!(q)) (by rw[cc1];rfl)) (hk (bT (x:=!(q)) (by rw[cc1];rfl)) (hk (bT (x:=!(q)) (by rw[cc1];rfl)) (hk (bT (x:=!(q)) (by rw[cc1];rfl)) (hk (bT cc2) (hq (.eq (bE Try.prog 22 1 [(0,(i64 (i:Int)))] a3) (1,.val (aD b0 0 1 2),a9)) (bZ (by rw[<-b1,<-b2];kernel_rfl) Nat.one_ne_zero) (hq (.q (.append [22,22] cI (aD b0 0 1 2) a9) (1,.val (aD b41 0 1 1),a4)) (jD (by rw[<-a0,<-b3];exact append_nil (w:=1) (by kernel_rfl) (by kernel_rfl) (y:=8) (by kernel_rfl) (by decide) (by decide) d5 rfl rfl rfl) Nat.one_ne_zero) hn)))))))))))))))))))))))
 exact⟨T1,a4,b41,h1,h2,d0,b8,d8,c0,d7,hkp⟩
theorem r14GA(b rb n d bi oi ci i:Nat)(q:Bool)(vl:Value)(l:List E4)(r k:Nat)(cr:List Value){M M0:aA}(hM:aB M)(X0:Ext M0 M)(gb:M.get b=some ⟨[i64 n,vl],26,2,0,true⟩)(href:eD 87 (n,l) (pt rb 0) M0)(hl400:l.length<=400)(hr:M0.next<=r)(gr:M.get r=some ⟨cr,3,1,0,true⟩)(hbr:b≠r)(cc0:(decide ((i:Int)<(n:Int)))=true)(cc1:(q)=false)(cc2:((IntKind.wrap .i64 ((((bQ .fr l (i:Int) l.length).length:Nat):Int)+(((bQ .to l (i:Int) l.length).length:Nat):Int)))==(d:Int))=true)(hld0:aX Try.prog 4 ⟨bi,oi+((i:Int):Int).toNat*1,none⟩ M0=some (.bool q))(hg1:k<1073741824/\(cr).length=k*1): ∃T1 M' b46,Rd Try.prog [] (q14.loopAt 2) Try.f14.ntmps (fr [(1,(pt b 0)),(3,(pt rb 0)),(4,(aD bi oi n ci)),(5,(aD r 0 k k)),(6,(i64 (d:Int))),(7,(i64 (i:Int)))]) M .normal T1 M'/\ [1,3,4,5,6,7].map T1.get= [some (pt b 0),some (pt rb 0),some (aD bi oi n ci),some (aD b46 0 (k+1) (k+1)),some (i64 (d:Int)),some (i64 (IntKind.wrap .i64 ((i:Int)+(1:Int))))]/\Ext M0 M'/\aB M'/\M'.get b=some ⟨[i64 (n:Int),vl],26,2,0,true⟩/\M0.next<=b46/\M'.get b46=some ⟨cr++ [i64 (i:Int)],3,1,0,true⟩/\ ∀id k,M.get id=some k->id≠b->id≠r->M'.get id=some k:=by
 obtain⟨w4,N5,M6,p7,l8,e9,a4,b5,c8⟩:=aH (x:=((n,l),(i:Int))) hM Pl (⟨⟨_,_,rfl,AP.Ext (R:=(eD 87)) href X0,rfl⟩,hl400⟩)
 have d4:=a4.old gb
 have d5:=a4.old gr
 have G3:aP (bQ .fr l (i:Int) l.length) w4 M6:=fG.out (R:=aP) c8
 obtain⟨a1,c2,d3⟩:=aK.form G3
 subst d3
 have b9:=aK.ln G3
 have c3:=X0.trans a4
 obtain⟨Tn,e4,a7,e3,e2,d2,a5,b6,c9⟩:=aH (x:=((n,l),(i:Int))) b5 Pm (⟨⟨_,_,rfl,AP.Ext (R:=(eD 87)) href c3,rfl⟩,hl400⟩)
 have d6:=a5.old d4
 have d7:=a5.old d5
 have c1:aP (bQ .to l (i:Int) l.length) Tn a7:=fG.out (R:=aP) c9
 obtain⟨c5,c6,b4⟩:=aK.form c1
 subst b4
 have a3:=aK.ln c1
 have d0:=c3.trans a5
 obtain⟨b0,a9,b1,b2,d8,a6,b7⟩:=bG b6 ⟨[i64 (i:Int)],3,1,0,true⟩
 have c7:=a6.old d6
 have d9:=a6.old d7
 have c4:=d0.trans a6
 obtain⟨b46,a8,a0,b3,e0,d1,b8,a2⟩:=rZ c4 hr b7 ⟨cr++ [i64 (i:Int)],3,1,0,true⟩
 have c0:M0.next<=b46:=by rw[<-a0];exact c4.next
 have e1:=(a2 _ hbr (aA.lt_of_get c7)).trans c7
 have hkp: ∀id k,M.get id=some k->id≠b->id≠r->a8.get id=some k:=fun id k g h_b h_r=>by
  have g:=a4.old g
  have g:=a5.old g
  have g:=a6.old g
  have g:=(a2 id h_r (aA.lt_of_get g)).trans g
  exact g
 obtain⟨T1,h1,h2⟩:=Rd.told (tb:=[]) (n:=60) (F:=[aU 5 (i64 (n:Int)),aM 8,aM 14,aU 16 (.bool q),aM 21,aM 23,aM 25,bL 26 (.slice a1 (bQ .fr l (i:Int) l.length).length c2) M6,aM 27,aM 28,aM 29,aM 31,aM 33,bL 34 (.slice c5 (bQ .to l (i:Int) l.length).length c6) a7,aM 35,aM 36,aM 37,aM 39,aM 41,aM 44,aM 45,bL 51 (aD b0 0 1 2) a9,.at 53 (2,.val (aD b46 0 (k+1) (k+1)),a8)]) aJ aI (fun B=>lO (gF 33 Q33 (gF 34 Q34 (gQ _)))) (fun _ _=>rfl) (by kernel_rfl) (hk (lC (o:=0) cO gb rfl) (hk (bT cc0) (hk (qI (i:Int) n (by omega) (by simp at cc0;omega)) (hk (lD (aE X0 hld0)) (hk (bT (x:=!(q)) (by rw[cc1];rfl)) (hk (bT (x:=!(q)) (by rw[cc1];rfl)) (hk (bT (x:=!(q)) (by rw[cc1];rfl)) (hq (qC 33 [pt rb 0,i64 (i:Int)] M (.slice a1 (bQ .fr l (i:Int) l.length).length c2) M6) (aN rfl p7 l8 e9) (hk (bT (x:=!(q)) (by rw[cc1];rfl)) (hk (lN b9) (hk (bT (x:=!(q)) (by rw[cc1];rfl)) (hk (bT (x:=!(q)) (by rw[cc1];rfl)) (hk (bT (x:=!(q)) (by rw[cc1];rfl)) (hq (qC 34 [pt rb 0,i64 (i:Int)] M6 (.slice c5 (bQ .to l (i:Int) l.length).length c6) a7) (aN rfl e3 e2 d2) (hk (bT (x:=!(q)) (by rw[cc1];rfl)) (hk (lN a3) (hk (bT (x:=!(q)) (by rw[cc1];rfl)) (hk (bT (x:=!(q)) (by rw[cc1];rfl)) (hk (bT (x:=!(q)) (by rw[cc1];rfl)) (hk (bT (x:=!(q)) (by rw[cc1];rfl)) (hk (bT cc2) (hq (.eq (bE Try.prog 22 1 [(0,(i64 (i:Int)))] a7) (1,.val (aD b0 0 1 2),a9)) (bZ (by rw[<-b1,<-b2];kernel_rfl) Nat.one_ne_zero) (hq (.q (.append [22,22] (aD r 0 k k) (aD b0 0 1 2) a9) (2,.val (aD b46 0 (k+1) (k+1)),a8)) (jD (by rw[<-a0,<-b3];exact jJ (w:=1) (by kernel_rfl) (by kernel_rfl) (by kernel_rfl) (y:=8) (by kernel_rfl) (by decide) (by decide) hg1.1 d8 rfl rfl rfl d9 hg1.2 rfl rfl rfl rfl) (Nat.succ_ne_zero _)) hn)))))))))))))))))))))))
 exact⟨T1,a8,b46,h1,h2,d1,b8,e1,c0,e0,hkp⟩
theorem Sp{b rb n d bi oi ci:Nat}{S:Value}{vl:Value}{l:List E4}{acc:List Int}{M0 M:aA}(hM:aB M)(X:Ext M0 M)(hb:b<M0.next)(gb:M.get b=some ⟨[i64 n,vl],26,2,0,true⟩)(href:eD 87 (n,l) (pt rb 0) M0)(hs:qY (gA l n) (aD bi oi n ci) M0)(hl:l.length<=400)(hn:n<=60)(ha:acc.length<=100000)(hA:oN M0 M S acc):
  ∃S' M',bJ Try.prog [] (q14.loopAt 2) Try.f14.ntmps (fr [(1,pt b 0),(3,pt rb 0),(4,aD bi oi n ci),(5,S),(6,i64 d),(7,i64 ((0:Nat):Int))]) M (.exit 2) (fr [(1,pt b 0),(3,pt rb 0),(4,aD bi oi n ci),(5,S'),(6,i64 d)]) M'/\Ext M0 M'/\aB M'/\M'.get b=some ⟨[i64 n,vl],26,2,0,true⟩/\oN M0 M' S' (acc++gY l d n):=by
 have hlr:(gA l n).length=n:=by simp [gA]
 obtain⟨S',M',h1,h2,h3,h4,h5⟩:=bJ.for (P:=Try.prog) (GL:= []) (b:=q14.loopAt 2) (nt:=Try.f14.ntmps) (id:=2) (σ:=Value) (n:=n) (Inv:=fun i S M1=>Ext M0 M1/\aB M1/\M1.get b=some ⟨[i64 n,vl],26,2,0,true⟩/\oN M0 M1 S (acc++gY l d i))
  (F:=fun i S=> [(1,pt b 0),(3,pt rb 0),(4,aD bi oi n ci),(5,S),(6,i64 d),(7,i64 ((i:Nat):Int))])
  (O:=fun S=> [(1,pt b 0),(3,pt rb 0),(4,aD bi oi n ci),(5,S),(6,i64 d)])
  (by
   rintro i S M1 hi ⟨X1,a1,a0,hA⟩
   have hq:(gA l n)[i]?=some (pW l (i:Int)):=by simp [gA,hi]
   have hld:=iC (P:=Try.prog) (ty:=4) hs hq rfl Vd
   have a3:=jP .fr l (i:Int) l.length
   have a4:=jP .to l (i:Int) l.length
   have ew:=wU (i:=(bQ .fr l (i:Int) l.length).length) (j:=(bQ .to l (i:Int) l.length).length) (by omega)
   have hlen:=Cj l d i
   have hal:(acc++gY l d i).length<=100060:=by rw[List.length_append];omega
   rw[zA,<-List.append_assoc]
   cases a2:pW l (i:Int) with
   |true=>
    rw[a2] at hld
    obtain⟨T1,h1,h2⟩:=r14LQ b rb n d bi oi ci i true vl l S X1 a0 href hl (decide_eq_true (by omega)) rfl hld
    rw[aY (by omega)] at h2
    refine⟨S,T1,M1,h1,h2,X1,a1,a0,?_⟩
    rw[if_neg (by simp),List.append_nil]
    exact hA
   |false=>
    rw[a2] at hld
    by_cases hdd:lK l (i:Int)=d
    ·rw[if_pos ⟨rfl,hdd⟩]
     have hcc:((IntKind.wrap .i64 ((((bQ .fr l (i:Int) l.length).length:Nat):Int)+(((bQ .to l (i:Int) l.length).length:Nat):Int)))==(d:Int))=true:=by
      rw[ew];simp only [beq_iff_eq];unfold lK at hdd;omega
     generalize acc++gY l d i=A at hA hal
     rcases hA with⟨rfl,h0⟩|⟨r,rfl,h0,hr,hg⟩
     ·obtain⟨T1,M2,b2,h1,h2,h3,h4,h5,h6,h7,_⟩:=r14NA b rb n d bi oi ci i false vl l a1 X1 a0 href hl (decide_eq_true (by omega)) rfl hcc hld
      rw[aY (by omega)] at h2
      exact⟨_,T1,M2,h1,h2,h3,h4,h5,.inr ⟨b2,by rw[h0];rfl,by simp,h6,by rw[h7,h0];rfl⟩⟩
     ·obtain⟨T1,M2,b2,h1,h2,h3,h4,h5,h6,h7,_⟩:=r14GA b rb n d bi oi ci i false vl l r A.length _ a1 X1 a0 href hl hr hg (by omega) (decide_eq_true (by omega)) rfl hcc hld ⟨by omega,by simp⟩
      rw[aY (by omega)] at h2
      exact⟨_,T1,M2,h1,h2,h3,h4,h5,.inr ⟨b2,by rw[List.length_append];rfl,by simp,h6,by rw[h7,List.map_append];rfl⟩⟩
    ·rw[if_neg (fun h=>hdd h.2),List.append_nil]
     have hcc:((IntKind.wrap .i64 ((((bQ .fr l (i:Int) l.length).length:Nat):Int)+(((bQ .to l (i:Int) l.length).length:Nat):Int)))==(d:Int))=false:=by
      rw[ew];simp only [beq_eq_false_iff_ne];unfold lK at hdd;omega
     obtain⟨T1,M2,h1,h2,h3,h4,h5,h6⟩:=r14LS b rb n d bi oi ci i false vl l S a1 X1 a0 href hl (decide_eq_true (by omega)) rfl hcc hld
     rw[aY (by omega)] at h2
     exact⟨S,T1,M2,h1,h2,h3,h4,h5,hA.keep fun id k hid hg=>h6 id k hg (by omega)⟩)
  (by
   rintro S M1 ⟨X1,a1,a0,_⟩
   exact r14x b rb n d n bi oi ci S vl a0 (decide_eq_false (by omega)))
  n 0 (by omega) (s:=S) (M:=M) ⟨X,hM,gb,by rw[show gY l d 0= [] from rfl,List.append_nil];exact hA⟩
 exact⟨S',M',h1,h2,h3,h4,h5⟩
theorem o14(b rb n d bi oi ci cl:Nat)(al:Option Addr)(l:List E4)(S:Value){acc:List Int}{M M0:aA}(hM:aB M)(X0:Ext M0 M)(hb:b<M0.next)(gb:M.get b=some ⟨[i64 n,.slice al l.length cl],26,2,0,true⟩)(href:eD 87 (n,l) (pt rb 0) M0)(hs:qY (gA l n) (aD bi oi n ci) M0)(hl:aV l (.slice al l.length cl) M0)(hl400:l.length<=400)(hn60:n<=60)(ha:acc.length<=100000)(hA:oN M0 M S acc)(cc0:(decide ((d:Int)<=(IntKind.wrap .i64 ((2:Int)*(l.length:Int)))))=true): ∃S' T1 M',Rd Try.prog [] (q14.loopAt 0) Try.f14.ntmps (fr [(1,(pt b 0)),(3,(pt rb 0)),(4,(aD bi oi n ci)),(5,S),(6,(i64 (d:Int)))]) M .normal T1 M'/\ [1,3,4,5,6].map T1.get= [some (pt b 0),some (pt rb 0),some (aD bi oi n ci),some S',some (i64 (IntKind.wrap .i64 ((d:Int)+(1:Int))))]/\Ext M0 M'/\aB M'/\M'.get b=some ⟨[i64 n,.slice al l.length cl],26,2,0,true⟩/\oN M0 M' S' (acc++gY l d n):=by
 obtain⟨S1,M3,a0,X5,a1,g7,A2⟩:=Sp (d:=d) hM X0 hb gb href hs hl400 hn60 ha hA
 obtain⟨T1,h1,h2⟩:=Rd.told (tb:=[2]) (n:=60) (F:=[aU 5 (.slice al l.length cl),aM 7,aM 12,.blk 15 [1,3,4,5,6,7] .normal (fr [(1,(pt b 0)),(3,(pt rb 0)),(4,(aD bi oi n ci)),(5,S1),(6,(i64 (d:Int)))]) M3]) aJ aI (fun B=>zN (gQ B) 2 a0) (fun _ h=>cF h) (by kernel_rfl) (hk (lC (o:=1) cP gb rfl) (hk (lN hl.ln) (hk (bT cc0) (hq (.blk 2 (.loop (q14.loopAt 2)) Try.f14.ntmps [1,3,4,5,6,7] [some (pt b 0),some (pt rb 0),some (aD bi oi n ci),some S,some (i64 (d:Int)),some (i64 0)] M .normal (fr [(1,(pt b 0)),(3,(pt rb 0)),(4,(aD bi oi n ci)),(5,S1),(6,(i64 (d:Int)))]) M3) (fH rfl) hn))))
 exact⟨S1,T1,M3,h1,h2,X5,a1,g7,A2⟩
theorem o14x(b rb n d bi oi ci cl:Nat)(al:Option Addr)(l:List E4)(S:Value){M:aA}(gb:M.get b=some ⟨[i64 n,.slice al l.length cl],26,2,0,true⟩){M0:aA}(hl:aV l (.slice al l.length cl) M0)(cc0:(decide ((d:Int)<=(IntKind.wrap .i64 ((2:Int)*(l.length:Int)))))=false): ∃T1,Rd Try.prog [] (q14.loopAt 0) Try.f14.ntmps (fr [(1,(pt b 0)),(3,(pt rb 0)),(4,(aD bi oi n ci)),(5,S),(6,(i64 (d:Int)))]) M (.exit 0) T1 M/\ [5].map T1.get= [some S]:=by
 exact Rd.told (tb:=[]) (n:=60) (F:=[aU 5 (.slice al l.length cl),aM 7,aO 12]) aJ aI (aG Try.prog) (fun _ _=>rfl) (by kernel_rfl) (hk (lC (o:=1) cP gb rfl) (hk (lN hl.ln) (hk (bF cc0) hn)))
theorem Vo{b rb n bi oi ci cl:Nat}{al:Option Addr}{l:List E4}{M:aA}(hM:aB M)(gb:M.get b=some ⟨[i64 n,.slice al l.length cl],26,2,0,true⟩)(href:eD 87 (n,l) (pt rb 0) M)(hs:qY (gA l n) (aD bi oi n ci) M)(hl:aV l (.slice al l.length cl) M)(hl4:l.length<=400)(hn:n<=60):
  ∃S M',bJ Try.prog [] (q14.loopAt 0) Try.f14.ntmps (fr [(1,pt b 0),(3,pt rb 0),(4,aD bi oi n ci),(5,cI),(6,i64 ((0:Nat):Int))]) M (.exit 0) (fr [(5,S)]) M'/\Ext M M'/\aB M'/\oN M M' S (vB n l):=by
 have hb:=aA.lt_of_get gb
 have ew:IntKind.wrap .i64 ((2:Int)*(l.length:Int))=((2*l.length:Nat):Int):=by
  rw[<-Kd (i:=2*l.length) (by omega)];congr 1
 obtain⟨S,M',h1,h2,h3,_,h4⟩:=bJ.for (P:=Try.prog) (GL:= []) (b:=q14.loopAt 0) (nt:=Try.f14.ntmps) (id:=0) (σ:=Value) (n:=2*l.length+1) (Inv:=fun i S M1=>Ext M M1/\aB M1/\M1.get b=some ⟨[i64 n,.slice al l.length cl],26,2,0,true⟩/\oN M M1 S (jU l n i))
  (F:=fun i S=> [(1,pt b 0),(3,pt rb 0),(4,aD bi oi n ci),(5,S),(6,i64 ((i:Nat):Int))])
  (O:=fun S=> [(5,S)])
  (by
   rintro i S M1 hi ⟨X1,a1,a0,hA⟩
   have hlen:=yZ l n i
   have h2:i*n<=801*60:=Nat.mul_le_mul (by omega) hn
   obtain⟨S',T1,M2,h1,h2,h3,h4,h5,h6⟩:=o14 b rb n i bi oi ci cl al l S a1 X1 hb a0 href hs hl hl4 hn (by omega) hA (by rw[ew];exact decide_eq_true (by omega))
   rw[aY (by omega)] at h2
   refine⟨S',T1,M2,h1,h2,h3,h4,h5,?_⟩
   rw[nB];exact h6)
  (by
   rintro S M1 ⟨X1,a1,a0,_⟩
   exact o14x b rb n _ bi oi ci cl al l S a0 hl (by rw[ew];exact decide_eq_false (by omega)))
  (2*l.length+1) 0 (by omega) (s:=cI) (M:=M) ⟨Ext.refl M,hM,gb,.inl ⟨rfl,rfl⟩⟩
 exact⟨S,M',h1,h2,h3,h4⟩
theorem rK14:Try.f14.results= #[.tmp 2]:=by kernel_rfl
theorem w14(n:Nat)(al:Option Addr)(cl:Nat)(l:List E4){M:aA}(hM:aB M)(hl:aV l (.slice al l.length cl) M)(hck:eP (n:Int) l=true)(hl400:l.length<=400)(hn60:n<=60/\1<=n): ∃v_ M',Ev Try.prog [] 14 [.agg ⟨[i64 (n:Int),.slice al l.length cl]⟩] M v_ M'/\Ext M M'/\aB M'/\fG aP (vB n l) M.next v_ M':=by
 obtain⟨b1,M2,e5,e6,g5,E6,e9⟩:=bG hM ⟨[i64 (n:Int),.slice al l.length cl],26,2,0,true⟩
 have X9:=(Ext.refl M).trans E6
 obtain⟨a8,a3⟩: ∃m:aA,m=aA.mk M2.blks M2.next M2.hide []:=⟨_,rfl⟩
 have d1:Ext (aA.mk M.blks M.next M.hide []) a8:=by rw[a3];exact Ext.aside (X9)
 have c6:a8.log= []:=by rw[a3]
 have c1:aB a8:=by rw[a3];exact aB.log e9
 have ltb1M2:b1<M2.next:=by have h:=aA.lt_of_get g5;exact h
 have d5:a8.get b1=some ⟨[i64 (n:Int),.slice al l.length cl],26,2,0,true⟩:=by rw[a3];exact g5
 obtain⟨g0,g1,a0,f2,f0,d3,c9,c2,d9⟩:=aH (x:=(n,l)) c1 Tx (⟨_,rfl,_,rfl,AP.Ext (R:=aV) (AP.log (R:=aV) hl) d1⟩)
 have d6:=c9.old d5
 have d0:eD 87 (n,l) g0 a0:=d9
 obtain⟨a6,_,b9,_⟩:=id d0
 subst b9
 have c7:a0.log= []:=by rw[<-d3];exact c6
 have b3:=d1.trans c9
 obtain⟨w36,g2,a1,f3,f1,d4,b4,c3,e0⟩:=aH (x:=(n,l)) c2 Zz (⟨⟨_,rfl,_,rfl,AP.Ext (R:=aV) (AP.log (R:=aV) hl) b3⟩,hck⟩)
 have e1:=AP.Ext (R:=(eD 87)) d0 b4
 have e7:=b4.old d6
 have b5:qY (gA l n) w36 (bP [(0,a0.next)] a1):=lI e0
 obtain⟨g3,b7,a9⟩:=aK.form b5
 rw[show(gA l n).length=n by simp [gA]] at a9
 subst a9
 obtain⟨a4,a5,b8,_⟩:=cD b5 (by simp [gA];omega)
 subst b8
 have c8:a1.log= []:=by rw[<-d4];exact c7
 have d2:=b3.trans b4
 obtain⟨a7,a2⟩: ∃m:aA,m=(aA.mk a1.blks a1.next a1.hide (a1.log++M2.log)):=⟨_,rfl⟩
 have b6:Ext M a7:=by rw[a2];exact Ext.join (X9) (d2)
 have c4:aB a7:=by rw[a2];exact c3
 have e8:a7.get b1=some ⟨[i64 (n:Int),.slice al l.length cl],26,2,0,true⟩:=by rw[a2];exact e7
 have e2:=AP.ext (R:=(eD 87)) (M':=a7) (fun id b h=>by rw[a2];exact h) e1
 have e3:=eM (R:=qY) (M':=a7) b5 (fun id b h=>by rw[a2];exact h)
 obtain⟨b2,b0,c0,d8,c5,d7⟩:=Vo c4 e8 e2 (eI (R:=qY) e3) (AP.Ext (R:=aV) hl b6) hl400 hn60.1
 have e4:=b6.trans d8
 have hraw:oT Try.prog [0] 60 Try.f14 q14 [.agg ⟨[i64 (n:Int),.slice al l.length cl]⟩] M [bL 1 (pt b1 0) M2,aU 5 (.agg ⟨[i64 (n:Int),.slice al l.length cl]⟩),bL 7 (pt a6 0) a0,aU 9 (.agg ⟨[i64 (n:Int),.slice al l.length cl]⟩),bL 11 (aD a4 a5 n b7) a1,.blk 20 [1,3,4,5,6] .normal (fr [(5,b2)]) b0] 2=some (.ret,some b2,b0,[.eq (fE Try.prog 26 (.agg ⟨[i64 (n:Int),.slice al l.length cl]⟩) M) (1,.val (pt b1 0),M2),qL 26 b1 0 (aA.mk M2.blks M2.next M2.hide []) (.agg ⟨[i64 (n:Int),.slice al l.length cl]⟩),qC 31 [.agg ⟨[i64 (n:Int),.slice al l.length cl]⟩] (aA.mk M2.blks M2.next M2.hide []) (pt a6 0) a0,qL 26 b1 0 (aA.mk a0.blks a0.next (aS 0 [⟨1,1,M2.next,a0.next⟩,⟨0,1,M2.next,M2.next⟩]++M2.hide) a0.log) (.agg ⟨[i64 (n:Int),.slice al l.length cl]⟩),qT (Nat.blt b1 M2.next),qC 32 [.agg ⟨[i64 (n:Int),.slice al l.length cl]⟩] (aA.mk a0.blks a0.next M2.hide a0.log) (aD a4 a5 n b7) a1,qT (cQ [b1] a1.log),.blk 0 (.loop (q14.loopAt 0)) Try.f14.ntmps [1,3,4,5,6] [some (pt b1 0),some (pt a6 0),some (aD a4 a5 n b7),some cI,some (i64 0)] (aA.mk a1.blks a1.next M2.hide (a1.log++M2.log)) .normal (fr [(5,b2)]) b0]):=by kernel_rfl
 have f5:aA.mk M2.blks M2.next M2.hide []=a8:=a3.symm
 have f6:aA.mk a0.blks a0.next M2.hide a0.log=a0:=by rw[(show M2.hide=a0.hide from((X9).hide.trans (b3).hide.symm))]
 have f7:aA.mk a0.blks a0.next (aS 0 [⟨1,1,M2.next,a0.next⟩,⟨0,1,M2.next,M2.next⟩]++M2.hide) a0.log=bP (aS 0 [⟨1,1,M2.next,a0.next⟩,⟨0,1,M2.next,M2.next⟩]) a0:=by rw[(show M2.hide=a0.hide from((X9).hide.trans (b3).hide.symm))];rfl
 have f8:(aA.mk a1.blks a1.next M2.hide (a1.log++M2.log))=(aA.mk a1.blks a1.next a1.hide (a1.log++M2.log)):=by rw[(show M2.hide=a1.hide from((X9).hide.trans (d2).hide.symm))]
 have f9:(aA.mk a1.blks a1.next a1.hide (a1.log++M2.log))=a7:=a2.symm
 try rw[f5] at hraw
 try rw[f6] at hraw
 try rw[f7] at hraw
 try rw[f8] at hraw
 try rw[f9] at hraw
 exact⟨b2,b0,Ev.told_tmp aJ aI Try.func14 Wz (by kernel_rfl) rK14 (fun B=>zN (gF 32 Q32 (gF 31 Q31 (gQ _))) 0 c0) (fun _ h=>cF h) hraw (hk (bZ (by rw[<-e5,<-e6];kernel_rfl) Nat.one_ne_zero) (hk (lA ⟨rW,pS⟩ d5 rfl) (hk (aN rfl f2 f0 d3) (hk (lA ⟨rW,pS⟩ (bS.2 ⟨cY (by simp;omega),d6⟩) rfl) (hk (mE ltb1M2) (hk (aN rfl f3 f1 d4) (hk (dZ (by rw[c8];simp<;>omega)) (hk (fH rfl) hn)))))))),e4,c5,oN.new d7 (by have h1:=yZ l n (2*l.length+1);have h2:(2*l.length+1)*n<=801*60:=Nat.mul_le_mul (by omega) hn60.1;unfold vB;omega) (b6).next⟩
abbrev Q14:=FC (iG (tL jC) fun x=>eP (x.1:Int) x.2=true) (fG aP) (fun x=>vB x.1 x.2)
theorem Zs{x:Nat×List E4}{lv:List Value}{M:aA}(hM:aB M)(h:(iG (tL jC) fun x:Nat×List E4=>eP (x.1:Int) x.2=true) x lv M): ∃v M',lQ Try.prog [] 14 Q14 lv M v M':=by
 refine FC.con h ?_
 obtain⟨⟨g0,rfl,k0⟩,hck⟩:=h
 obtain⟨n,l⟩:=x
 obtain⟨_,rfl,hl⟩:=k0
 obtain⟨a,c,rfl⟩:=aK.form hl
 obtain⟨v,M',h1,h2,_,h3⟩:=w14 n a c l hM hl hck (eZ hck).2.2.1 (by have h1:=(eZ hck).1;have h2:=(eZ hck).2.1;simp only at h1 h2⊢;omega)
 exact⟨v,M',h1,h2,h3⟩
theorem r90z(p r6 bb o m c i:Nat)(N md k:Int)(S:Value)(l:List E4){M M0:aA}(hM:aB M)(X0:Ext M0 M)(np:M0.next<=p)(gp:M.get p=some ⟨[i64 N,S],26,2,0,true⟩)(gr6h:M.get r6=some ⟨[i64 0,cI],26,2,0,true⟩)(dpr6:p≠r6)(hN62:(decide (0<N)&&decide (N<2^62))=true)(hA:cU 37 4 M0 [p,r6] l.length ((l.map kL).flatten) S M)(hl30:l.length<1073741824)(cc0:(decide ((i:Int)<(m:Int)))=true)(cc1:(decide ((i:Int)<(40:Int)))=true)(cc2:((aC md 3)==(0:Int))=true)(cc3:((aC k 31)==(0:Int))=true)(hld0:aX Try.prog 3 ⟨bb,o+((i:Int):Int).toNat*1,none⟩ M0=some (i64 k)): ∃T1 M' S195,Rd Try.prog [] (q10.loopAt 0) Try.f10.ntmps (fr [(1,(aD bb o m c)),(2,(i64 md)),(6,(pt r6 0)),(7,(pt p 0)),(8,(i64 (i:Int)))]) M .normal T1 M'/\ [1,2,6,7,8].map T1.get= [some (aD bb o m c),some (i64 md),some (pt r6 0),some (pt p 0),some (i64 (IntKind.wrap .i64 ((i:Int)+(1:Int))))]/\Ext M0 M'/\aB M'/\M'.get p=some ⟨[i64 N,S195],26,2,0,true⟩/\M'.get r6=some ⟨[i64 0,cI],26,2,0,true⟩/\cU 37 4 M0 [p,r6] (l.length+1) ((l.map kL).flatten++ [i64 (aC k N),i64 (aC (aF k 13) N),i64 (aC (IntKind.wrap .i64 ((aC k N)+(aC (aF k 13) N))) 2),i64 (IntKind.wrap .i64 ((2147483647:Int)-(aC (aF k 31) 3)))]) S195 M':=by
 obtain⟨R1,d3⟩: ∃m:aA,m=aA.mk M.blks M.next M.hide []:=⟨_,rfl⟩
 have X3:Ext (aA.mk M0.blks M0.next M0.hide []) R1:=by rw[d3];exact Ext.aside (X0)
 have u3:R1.log= []:=by rw[d3]
 have t8:aB R1:=by rw[d3];exact aB.log hM
 have ltpM:p<M.next:=by have h:=aA.lt_of_get gp;exact h
 have g6:R1.get p=some ⟨[i64 N,S],26,2,0,true⟩:=by rw[d3];exact gp
 have ltr6M:r6<M.next:=by have h:=aA.lt_of_get gr6h;exact h
 have g7:R1.get r6=some ⟨[i64 0,cI],26,2,0,true⟩:=by rw[d3];exact gr6h
 have A8:=hA.same (M':=R1) (fun id b h=>by rw[d3];exact h)
 obtain⟨w9,w1,a0,u4,t9,p4,g2,l9,r4⟩:=aH (x:=(k,N)) t8 cW (⟨⟨_,_,rfl,rfl,rfl⟩,hN62⟩)
 have q8:=A8.ext g2
 have p8:=g2.old g6
 have s5:=g2.old g7
 have s4:w9=(i64 (aC k N)):=r4
 subst s4
 have n0:a0.log= []:=by rw[<-p4];exact u3
 have j2:=X3.trans g2
 obtain⟨w24,w2,a2,u5,u0,p5,g3,m0,r5⟩:=aH (x:=((aF k 13),N)) l9 cW (⟨⟨_,_,rfl,rfl,rfl⟩,hN62⟩)
 have q9:=q8.ext g3
 have s6:=g3.old p8
 have s7:=g3.old s5
 have j8:w24=(i64 (aC (aF k 13) N)):=r5
 subst j8
 have n1:a2.log= []:=by rw[<-p5];exact n0
 have o9:=j2.trans g3
 obtain⟨v9,w3,a3,u6,u1,p6,g4,m1,r7⟩:=aH (x:=((aF k 170),5)) m0 cW (⟨⟨_,_,rfl,rfl,rfl⟩,rfl⟩)
 have r0:=q9.ext g4
 have s8:=g4.old s6
 have s9:=g4.old s7
 have j9:v9=(i64 (aC (aF k 170) 5)):=r7
 subst j9
 have n2:a3.log= []:=by rw[<-p6];exact n1
 have p0:=o9.trans g4
 obtain⟨w0,w5,a9,u7,u2,p7,g5,m2,r8⟩:=aH (x:=((aF k 900),9)) m1 cW (⟨⟨_,_,rfl,rfl,rfl⟩,rfl⟩)
 have r1:=r0.ext g5
 have p9:=g5.old s8
 have q1:=g5.old s9
 have k0:w0=(i64 (aC (aF k 900) 9)):=r8
 subst k0
 have n3:a9.log= []:=by rw[<-p7];exact n2
 have p1:=p0.trans g5
 obtain⟨a5,a4,d4,e3,t0,g8,m3⟩:=bG m2 ⟨[i64 0,i64 0,i64 0,i64 0],37,4,0,true⟩
 have e0:M0.next<=a5:=by rw[<-d4];exact p1.next
 have b8:p≠a5:=by have:=aA.lt_of_get p9;omega
 have dr6b69:r6≠a5:=by have:=aA.lt_of_get q1;omega
 have r2:=r1.new d4 g8
 have t1:=g8.old p9
 have t2:=g8.old q1
 have n4:a4.log= []:=by rw[<-e3];exact n3
 have p2:=p1.trans g8
 obtain⟨a1,u9,l8,d9,p3,m4,n6⟩:=bH (o:=0) (v:=(.agg ⟨[i64 (aC k N),i64 (aC (aF k 13) N),i64 (aC (aF k 170) 5),i64 (aC (aF k 900) 9)]⟩)) (new:= [i64 (aC k N),i64 (aC (aF k 13) N),i64 (aC (aF k 170) 5),i64 (aC (aF k 900) 9)]) p2 e0 m3 lS t0 rfl rfl (Nat.zero_le _) (Nat.le_of_ble_eq_true rfl) rfl
 replace l8:a1.get a5=some ⟨[i64 (aC k N),i64 (aC (aF k 13) N),i64 (aC (aF k 170) 5),i64 (aC (aF k 900) 9)],37,4,0,true⟩:=l8
 have r3:=r2.keep (by simp) (fun id h _=>d9 id h)
 have t3:=(d9 _ b8).trans t1
 have t4:=(d9 _ dr6b69).trans t2
 have n5:a1.log= [a5]:=by rw[n6,n4]
 obtain⟨d2,a7⟩: ∃m:aA,m=(aA.mk a1.blks a1.next a1.hide (a1.log++M.log)):=⟨_,rfl⟩
 have s3:Ext M0 d2:=by rw[a7];exact Ext.join (X0) (p3)
 have m5:aB d2:=by rw[a7];exact m4
 have t5:d2.get p=some ⟨[i64 N,S],26,2,0,true⟩:=by rw[a7];exact t3
 have t6:d2.get r6=some ⟨[i64 0,cI],26,2,0,true⟩:=by rw[a7];exact t4
 have t7:d2.get a5=some ⟨[i64 (aC k N),i64 (aC (aF k 13) N),i64 (aC (aF k 170) 5),i64 (aC (aF k 900) 9)],37,4,0,true⟩:=by rw[a7];exact l8
 have g9:=r3.same (M':=d2) (fun id b h=>by rw[a7];exact h)
 obtain⟨o5,r9,b6,n7,m6,j4,b1,f2,i0⟩:=aH (x:=(md,3)) m5 cW (⟨⟨_,_,rfl,rfl,rfl⟩,rfl⟩)
 have h0:=g9.ext b1
 have k1:=b1.old t5
 have k2:=b1.old t6
 have d5:=b1.old t7
 have e4:o5=(i64 (aC md 3)):=i0
 subst e4
 have i4:=s3.trans b1
 obtain⟨o6,s0,c7,n8,m7,j5,b2,f3,i1⟩:=aH (x:=((IntKind.wrap .i64 ((aC k N)+(aC (aF k 13) N))),2)) f2 cW (⟨⟨_,_,rfl,rfl,rfl⟩,rfl⟩)
 have h3:=h0.ext b2
 have k3:=b2.old k1
 have k4:=b2.old k2
 have k5:=b2.old d5
 have e5:o6=(i64 (aC (IntKind.wrap .i64 ((aC k N)+(aC (aF k 13) N))) 2)):=i1
 subst e5
 have i5:=i4.trans b2
 obtain⟨c3,o1,d6,c1,i6,f5,q5⟩:=bH (o:=2) (v:=(i64 (aC (IntKind.wrap .i64 ((aC k N)+(aC (aF k 13) N))) 2))) (new:= [i64 (aC k N),i64 (aC (aF k 13) N),i64 (aC (IntKind.wrap .i64 ((aC k N)+(aC (aF k 13) N))) 2),i64 (aC (aF k 900) 9)]) i5 e0 f3 He k5 rfl rfl (Nat.zero_le _) (Nat.le_of_ble_eq_true rfl) rfl
 replace d6:c3.get a5=some ⟨[i64 (aC k N),i64 (aC (aF k 13) N),i64 (aC (IntKind.wrap .i64 ((aC k N)+(aC (aF k 13) N))) 2),i64 (aC (aF k 900) 9)],37,4,0,true⟩:=d6
 have h4:=h3.keep (by simp) (fun id h _=>c1 id h)
 have k6:=(c1 _ b8).trans k3
 have k7:=(c1 _ dr6b69).trans k4
 obtain⟨o7,s1,c8,n9,m8,j6,b3,f6,i2⟩:=aH (x:=(k,31)) f5 cW (⟨⟨_,_,rfl,rfl,rfl⟩,rfl⟩)
 have h5:=h4.ext b3
 have k8:=b3.old k6
 have k9:=b3.old k7
 have l0:=b3.old d6
 have e6:o7=(i64 (aC k 31)):=i2
 subst e6
 have i7:=i6.trans b3
 obtain⟨o8,s2,c9,o0,m9,j7,b4,f7,i3⟩:=aH (x:=((aF k 31),3)) f6 cW (⟨⟨_,_,rfl,rfl,rfl⟩,rfl⟩)
 have h6:=h5.ext b4
 have l1:=b4.old k8
 have l2:=b4.old k9
 have l3:=b4.old l0
 have e7:o8=(i64 (aC (aF k 31) 3)):=i3
 subst e7
 have i8:=i7.trans b4
 obtain⟨a8,o2,c0,c2,e1,f8,q6⟩:=bH (o:=3) (v:=(i64 (IntKind.wrap .i64 ((2147483647:Int)-(aC (aF k 31) 3))))) (new:= [i64 (aC k N),i64 (aC (aF k 13) N),i64 (aC (IntKind.wrap .i64 ((aC k N)+(aC (aF k 13) N))) 2),i64 (IntKind.wrap .i64 ((2147483647:Int)-(aC (aF k 31) 3)))]) i8 e0 f7 He l3 rfl rfl (Nat.zero_le _) (Nat.le_of_ble_eq_true rfl) rfl
 replace c0:a8.get a5=some ⟨[i64 (aC k N),i64 (aC (aF k 13) N),i64 (aC (IntKind.wrap .i64 ((aC k N)+(aC (aF k 13) N))) 2),i64 (IntKind.wrap .i64 ((2147483647:Int)-(aC (aF k 31) 3)))],37,4,0,true⟩:=c0
 have h7:=h6.keep (by simp) (fun id h _=>c2 id h)
 have d7:=(c2 _ b8).trans l1
 have e8:=(c2 _ dr6b69).trans l2
 obtain⟨a6,d0,b9,e2,e9,b5,f9⟩:=bG f8 ⟨[i64 (aC k N),i64 (aC (aF k 13) N),i64 (aC (IntKind.wrap .i64 ((aC k N)+(aC (aF k 13) N))) 2),i64 (IntKind.wrap .i64 ((2147483647:Int)-(aC (aF k 31) 3)))],37,4,0,true⟩
 have q3:M0.next<=a6:=by rw[<-b9];exact e1.next
 have j3:p≠a6:=by have:=aA.lt_of_get d7;omega
 have dr6b181:r6≠a6:=by have:=aA.lt_of_get e8;omega
 have db69b181:a5≠a6:=by have:=aA.lt_of_get c0;omega
 have h8:=h7.new b9 b5
 have f0:=b5.old d7
 have f1:=b5.old e8
 have l4:=b5.old c0
 have i9:=e1.trans b5
 obtain⟨c4,S195,d1,o3,j0,g0,b0,c5,q2⟩:=iE (P:=Try.prog) (sT:=24) (xT:=24) (y:=32) (c:=2) h8 i9 f9 (by intro x hx;simp only [List.mem_cons,List.not_mem_nil,or_false] at hx;rcases hx with rfl|rfl|rfl|rfl<;>first|exact aA.lt_of_get e9|exact aA.lt_of_get l4|exact aA.lt_of_get f0|exact aA.lt_of_get f1) (by kernel_rfl) (by kernel_rfl) (by kernel_rfl) (by kernel_rfl) (by decide) (by decide) rfl hl30 e9 (o:=0) (new:= [i64 (aC k N),i64 (aC (aF k 13) N),i64 (aC (IntKind.wrap .i64 ((aC k N)+(aC (aF k 13) N))) 2),i64 (IntKind.wrap .i64 ((2147483647:Int)-(aC (aF k 31) 3)))]) rfl rfl rfl
 have l5:=c5 _ _ f0 (by simp)
 have l6:=c5 _ _ f1 (by simp)
 obtain⟨b7,o4,d8,c6,j1,g1,q7⟩:=bH (o:=1) (v:=S195) (new:= [i64 N,S195]) j0 np g0 Nj l5 (by rw[cC b0.isCell];rfl) (by rw[cC b0.isCell];show(isCell _&&true)=true;rw[b0.isCell];rfl) (Nat.zero_le _) (Nat.le_of_ble_eq_true rfl) (by rw[cC b0.isCell];rfl)
 replace d8:b7.get p=some ⟨[i64 N,S195],26,2,0,true⟩:=d8
 have h9:=b0.keep (by simp) (fun id h _=>c6 id h)
 have l7:=(c6 _ (Ne.symm dpr6)).trans l6
 have hraw:oR Try.prog [] 100 Try.f10 (q10.loopAt 0) [(1,(aD bb o m c)),(2,(i64 md)),(6,(pt r6 0)),(7,(pt p 0)),(8,(i64 (i:Int)))] M [aM 10,aM 12,aM 15,aM 16,aM 22,aU 24 (i64 k),aU 32 (i64 N),bL 34 (i64 (aC k N)) a0,aU 42 (i64 N),bL 44 (i64 (aC (aF k 13) N)) a2,bL 50 (i64 (aC (aF k 170) 5)) a3,bL 56 (i64 (aC (aF k 900) 9)) a9,bL 60 (pt a5 0) (aA.mk a4.blks a4.next (aS 0 [⟨14,1,a3.next,a9.next⟩,⟨11,1,a2.next,a3.next⟩,⟨8,1,a0.next,a2.next⟩,⟨3,1,M.next,a0.next⟩,⟨2,1,M.next,M.next⟩]++M.hide) a4.log),lP 62 a1,bL 66 (i64 (aC md 3)) b6,aM 69,aU 73 (i64 (aC k N)),aU 77 (i64 (aC (aF k 13) N)),bL 81 (i64 (aC (IntKind.wrap .i64 ((aC k N)+(aC (aF k 13) N))) 2)) c7,lP 85 c3,bL 89 (i64 (aC k 31)) c8,aM 92,bL 98 (i64 (aC (aF k 31) 3)) c9,lP 104 a8,aU 108 S,aU 110 (.agg ⟨[i64 (aC k N),i64 (aC (aF k 13) N),i64 (aC (IntKind.wrap .i64 ((aC k N)+(aC (aF k 13) N))) 2),i64 (IntKind.wrap .i64 ((2147483647:Int)-(aC (aF k 31) 3)))]⟩),bL 112 (aD a6 0 1 2) d0,.at 114 ((bif c4 then 1 else 2),.val S195,d1),lP 118 b7] [1,2,6,7,8]=some (.normal,[some (aD bb o m c),some (i64 md),some (pt r6 0),some (pt p 0),some (i64 (IntKind.wrap .i64 ((i:Int)+(1:Int))))],b7,[qT (decide ((i:Int)<(m:Int))),qT (decide ((i:Int)<(m:Int))),qT (decide ((i:Int)<(m:Int))),qT (decide ((i:Int)<(40:Int))),.q (.inb (i:Int) m) (fM true),qL 3 bb (o+((i:Int):Int).toNat*1) M (i64 k),qL 3 p 0 (aA.mk M.blks M.next M.hide []) (i64 N),qC 19 [i64 k,i64 N] (aA.mk M.blks M.next M.hide []) (i64 (aC k N)) a0,qL 3 p 0 (aA.mk a0.blks a0.next (aS 64 [⟨3,1,M.next,a0.next⟩,⟨2,1,M.next,M.next⟩]++M.hide) a0.log) (i64 N),qT (Nat.blt p M.next),qC 19 [i64 (aF k 13),i64 N] (aA.mk a0.blks a0.next M.hide a0.log) (i64 (aC (aF k 13) N)) a2,qC 19 [i64 (aF k 170),i64 5] (aA.mk a2.blks a2.next M.hide a2.log) (i64 (aC (aF k 170) 5)) a3,qC 19 [i64 (aF k 900),i64 9] (aA.mk a3.blks a3.next M.hide a3.log) (i64 (aC (aF k 900) 9)) a9,.eq (dL Try.prog 37 (aA.mk a9.blks a9.next (aS 0 [⟨14,1,a3.next,a9.next⟩,⟨11,1,a2.next,a3.next⟩,⟨8,1,a0.next,a2.next⟩,⟨3,1,M.next,a0.next⟩,⟨2,1,M.next,M.next⟩]++M.hide) a9.log)) (1,.val (pt a5 0),(aA.mk a4.blks a4.next (aS 0 [⟨14,1,a3.next,a9.next⟩,⟨11,1,a2.next,a3.next⟩,⟨8,1,a0.next,a2.next⟩,⟨3,1,M.next,a0.next⟩,⟨2,1,M.next,M.next⟩]++M.hide) a4.log)),qS 37 a5 0 (.agg ⟨[i64 (aC k N),i64 (aC (aF k 13) N),i64 (aC (aF k 170) 5),i64 (aC (aF k 900) 9)]⟩) (aA.mk (aA.mk a4.blks a4.next (aS 0 [⟨14,1,a3.next,a9.next⟩,⟨11,1,a2.next,a3.next⟩,⟨8,1,a0.next,a2.next⟩,⟨3,1,M.next,a0.next⟩,⟨2,1,M.next,M.next⟩]++M.hide) a4.log).blks (aA.mk a4.blks a4.next (aS 0 [⟨14,1,a3.next,a9.next⟩,⟨11,1,a2.next,a3.next⟩,⟨8,1,a0.next,a2.next⟩,⟨3,1,M.next,a0.next⟩,⟨2,1,M.next,M.next⟩]++M.hide) a4.log).next M.hide (aA.mk a4.blks a4.next (aS 0 [⟨14,1,a3.next,a9.next⟩,⟨11,1,a2.next,a3.next⟩,⟨8,1,a0.next,a2.next⟩,⟨3,1,M.next,a0.next⟩,⟨2,1,M.next,M.next⟩]++M.hide) a4.log).log) a1,qT (cQ [p] a1.log),qC 19 [i64 md,i64 3] (aA.mk a1.blks a1.next M.hide (a1.log++M.log)) (i64 (aC md 3)) b6,qT ((aC md 3)==(0:Int)),qL 3 a5 0 b6 (i64 (aC k N)),qL 3 a5 1 b6 (i64 (aC (aF k 13) N)),qC 19 [i64 (IntKind.wrap .i64 ((aC k N)+(aC (aF k 13) N))),i64 2] b6 (i64 (aC (IntKind.wrap .i64 ((aC k N)+(aC (aF k 13) N))) 2)) c7,qS 3 a5 2 (i64 (aC (IntKind.wrap .i64 ((aC k N)+(aC (aF k 13) N))) 2)) c7 c3,qC 19 [i64 k,i64 31] c3 (i64 (aC k 31)) c8,qT ((aC k 31)==(0:Int)),qC 19 [i64 (aF k 31),i64 3] c8 (i64 (aC (aF k 31) 3)) c9,qS 3 a5 3 (i64 (IntKind.wrap .i64 ((2147483647:Int)-(aC (aF k 31) 3)))) c9 a8,qL 24 p 1 a8 S,qL 37 a5 0 a8 (.agg ⟨[i64 (aC k N),i64 (aC (aF k 13) N),i64 (aC (IntKind.wrap .i64 ((aC k N)+(aC (aF k 13) N))) 2),i64 (IntKind.wrap .i64 ((2147483647:Int)-(aC (aF k 31) 3)))]⟩),.eq (bE Try.prog 24 1 [(0,(.agg ⟨[i64 (aC k N),i64 (aC (aF k 13) N),i64 (aC (IntKind.wrap .i64 ((aC k N)+(aC (aF k 13) N))) 2),i64 (IntKind.wrap .i64 ((2147483647:Int)-(aC (aF k 31) 3)))]⟩))] a8) (1,.val (aD a6 0 1 2),d0),.q (.append [24,24] S (aD a6 0 1 2) d0) ((bif c4 then 1 else 2),.val S195,d1),qS 24 p 1 S195 d1 b7]):=by cases c4<;>kernel_rfl
 dsimp only at hraw
 have v1:aA.mk M.blks M.next M.hide []=R1:=d3.symm
 have v2:aA.mk a0.blks a0.next M.hide a0.log=a0:=by rw[(show M.hide=a0.hide from((X0).hide.trans (j2).hide.symm))]
 have v3:aA.mk a0.blks a0.next (aS 64 [⟨3,1,M.next,a0.next⟩,⟨2,1,M.next,M.next⟩]++M.hide) a0.log=bP (aS 64 [⟨3,1,M.next,a0.next⟩,⟨2,1,M.next,M.next⟩]) a0:=by rw[(show M.hide=a0.hide from((X0).hide.trans (j2).hide.symm))];rfl
 have v4:aA.mk a2.blks a2.next M.hide a2.log=a2:=by rw[(show M.hide=a2.hide from((X0).hide.trans (o9).hide.symm))]
 have v5:aA.mk a3.blks a3.next M.hide a3.log=a3:=by rw[(show M.hide=a3.hide from((X0).hide.trans (p0).hide.symm))]
 have v6:aA.mk a4.blks a4.next M.hide a4.log=a4:=by rw[(show M.hide=a4.hide from((X0).hide.trans (p2).hide.symm))]
 have v7:(aA.mk a1.blks a1.next M.hide (a1.log++M.log))=(aA.mk a1.blks a1.next a1.hide (a1.log++M.log)):=by rw[(show M.hide=a1.hide from((X0).hide.trans (p3).hide.symm))]
 have v8:(aA.mk a1.blks a1.next a1.hide (a1.log++M.log))=d2:=a7.symm
 try rw[v1] at hraw
 try rw[v2] at hraw
 try rw[v3] at hraw
 try rw[v4] at hraw
 try rw[v5] at hraw
 try rw[v6] at hraw
 try rw[v7] at hraw
 try rw[v8] at hraw
 obtain⟨T1,h1,h2⟩:=Rd.told aJ aI (fun B=>lO (gF 19 Tv (gQ _))) (fun _ _=>rfl) hraw (hk (bT cc0) (hk (bT cc0) (hk (bT cc0) (hk (bT cc1) (hk (eW (by omega) (by simp at cc0;omega)) (hk (iP (aE X0 hld0)) (hk (lC cO g6 rfl) (hk (aN rfl u4 t9 p4) (hk (lC cO (bS.2 ⟨cY (by simp;omega),p8⟩) rfl) (hk (mE ltpM) (hk (aN rfl u5 u0 p5) (hk (aN rfl u6 u1 p6) (hk (aN rfl u7 u2 p7) (hk (bZ (by rw[<-d4,<-e3];kernel_rfl) Nat.one_ne_zero) (hk (eF u9) (hk (dZ (by rw[n5];simp<;>omega)) (hk (aN rfl n7 m6 j4) (hk (bT cc2) (hk (lC cO d5 rfl) (hk (lC cO d5 rfl) (hk (aN rfl n8 m7 j5) (hk (eF o1) (hk (aN rfl n9 m8 j6) (hk (bT cc3) (hk (aN rfl o0 m9 j7) (hk (eF o2) (hk (lC cP d7 rfl) (hk (lA ⟨tM,lS⟩ c0 rfl) (hk (bZ (by rw[<-b9,<-e2];kernel_rfl) Nat.one_ne_zero) (hk (jD o3 (by cases c4<;>simp)) (hk (eF o4) hn)))))))))))))))))))))))))))))))
 exact⟨T1,b7,S195,h1,h2,j1,g1,d8,l7,h9.less (by intro x hx;simp only [List.mem_cons,List.not_mem_nil,or_false] at hx;rcases hx with rfl|rfl<;>simp)⟩
theorem r90y(p r6 bb o m c i:Nat)(N md k:Int)(S:Value)(l:List E4){M M0:aA}(hM:aB M)(X0:Ext M0 M)(np:M0.next<=p)(gp:M.get p=some ⟨[i64 N,S],26,2,0,true⟩)(gr6h:M.get r6=some ⟨[i64 0,cI],26,2,0,true⟩)(dpr6:p≠r6)(hN62:(decide (0<N)&&decide (N<2^62))=true)(hA:cU 37 4 M0 [p,r6] l.length ((l.map kL).flatten) S M)(hl30:l.length<1073741824)(cc0:(decide ((i:Int)<(m:Int)))=true)(cc1:(decide ((i:Int)<(40:Int)))=true)(cc2:((aC md 3)==(0:Int))=true)(cc3:((aC k 31)==(0:Int))=false)(hld0:aX Try.prog 3 ⟨bb,o+((i:Int):Int).toNat*1,none⟩ M0=some (i64 k)): ∃T1 M' S170,Rd Try.prog [] (q10.loopAt 0) Try.f10.ntmps (fr [(1,(aD bb o m c)),(2,(i64 md)),(6,(pt r6 0)),(7,(pt p 0)),(8,(i64 (i:Int)))]) M .normal T1 M'/\ [1,2,6,7,8].map T1.get= [some (aD bb o m c),some (i64 md),some (pt r6 0),some (pt p 0),some (i64 (IntKind.wrap .i64 ((i:Int)+(1:Int))))]/\Ext M0 M'/\aB M'/\M'.get p=some ⟨[i64 N,S170],26,2,0,true⟩/\M'.get r6=some ⟨[i64 0,cI],26,2,0,true⟩/\cU 37 4 M0 [p,r6] (l.length+1) ((l.map kL).flatten++ [i64 (aC k N),i64 (aC (aF k 13) N),i64 (aC (IntKind.wrap .i64 ((aC k N)+(aC (aF k 13) N))) 2),i64 (aC (aF k 900) 9)]) S170 M':=by
 obtain⟨R1,c8⟩: ∃m:aA,m=aA.mk M.blks M.next M.hide []:=⟨_,rfl⟩
 have X3:Ext (aA.mk M0.blks M0.next M0.hide []) R1:=by rw[c8];exact Ext.aside (X0)
 have r8:R1.log= []:=by rw[c8]
 have r2:aB R1:=by rw[c8];exact aB.log hM
 have ltpM:p<M.next:=by have h:=aA.lt_of_get gp;exact h
 have g6:R1.get p=some ⟨[i64 N,S],26,2,0,true⟩:=by rw[c8];exact gp
 have ltr6M:r6<M.next:=by have h:=aA.lt_of_get gr6h;exact h
 have g7:R1.get r6=some ⟨[i64 0,cI],26,2,0,true⟩:=by rw[c8];exact gr6h
 have A8:=hA.same (M':=R1) (fun id b h=>by rw[c8];exact h)
 obtain⟨w9,t4,a0,r9,r3,n1,f5,k0,o8⟩:=aH (x:=(k,N)) r2 cW (⟨⟨_,_,rfl,rfl,rfl⟩,hN62⟩)
 have o2:=A8.ext f5
 have n5:=f5.old g6
 have p7:=f5.old g7
 have p6:w9=(i64 (aC k N)):=o8
 subst p6
 have l0:a0.log= []:=by rw[<-n1];exact r8
 have i0:=X3.trans f5
 obtain⟨w24,t5,a2,s0,r4,n2,f6,k1,o9⟩:=aH (x:=((aF k 13),N)) k0 cW (⟨⟨_,_,rfl,rfl,rfl⟩,hN62⟩)
 have o3:=o2.ext f6
 have p8:=f6.old n5
 have p9:=f6.old p7
 have i5:w24=(i64 (aC (aF k 13) N)):=o9
 subst i5
 have l1:a2.log= []:=by rw[<-n2];exact l0
 have m6:=i0.trans f6
 obtain⟨t2,t6,a3,s1,r5,n3,f7,k2,p0⟩:=aH (x:=((aF k 170),5)) k1 cW (⟨⟨_,_,rfl,rfl,rfl⟩,rfl⟩)
 have o4:=o3.ext f7
 have q1:=f7.old p8
 have q2:=f7.old p9
 have i6:t2=(i64 (aC (aF k 170) 5)):=p0
 subst i6
 have l2:a3.log= []:=by rw[<-n3];exact l1
 have m7:=m6.trans f7
 obtain⟨t3,t7,a8,s2,r7,n4,f8,k3,p1⟩:=aH (x:=((aF k 900),9)) k2 cW (⟨⟨_,_,rfl,rfl,rfl⟩,rfl⟩)
 have o5:=o4.ext f8
 have n6:=f8.old q1
 have n7:=f8.old q2
 have i7:t3=(i64 (aC (aF k 900) 9)):=p1
 subst i7
 have l3:a8.log= []:=by rw[<-n4];exact l2
 have m8:=m7.trans f8
 obtain⟨a6,a4,c9,d8,q3,f9,k4⟩:=bG k3 ⟨[i64 0,i64 0,i64 0,i64 0],37,4,0,true⟩
 have f3:M0.next<=a6:=by rw[<-c9];exact m8.next
 have c1:p≠a6:=by have:=aA.lt_of_get n6;omega
 have dr6b69:r6≠a6:=by have:=aA.lt_of_get n7;omega
 have o6:=o5.new c9 f9
 have q5:=f9.old n6
 have q6:=f9.old n7
 have l4:a4.log= []:=by rw[<-d8];exact l3
 have m9:=m8.trans f9
 obtain⟨a1,s3,j9,d5,n0,k5,l6⟩:=bH (o:=0) (v:=(.agg ⟨[i64 (aC k N),i64 (aC (aF k 13) N),i64 (aC (aF k 170) 5),i64 (aC (aF k 900) 9)]⟩)) (new:= [i64 (aC k N),i64 (aC (aF k 13) N),i64 (aC (aF k 170) 5),i64 (aC (aF k 900) 9)]) m9 f3 k4 lS q3 rfl rfl (Nat.zero_le _) (Nat.le_of_ble_eq_true rfl) rfl
 replace j9:a1.get a6=some ⟨[i64 (aC k N),i64 (aC (aF k 13) N),i64 (aC (aF k 170) 5),i64 (aC (aF k 900) 9)],37,4,0,true⟩:=j9
 have o7:=o6.keep (by simp) (fun id h _=>d5 id h)
 have q7:=(d5 _ c1).trans q5
 have q8:=(d5 _ dr6b69).trans q6
 have l5:a1.log= [a6]:=by rw[l6,l4]
 obtain⟨c7,a7⟩: ∃m:aA,m=(aA.mk a1.blks a1.next a1.hide (a1.log++M.log)):=⟨_,rfl⟩
 have p5:Ext M0 c7:=by rw[a7];exact Ext.join (X0) (n0)
 have k6:aB c7:=by rw[a7];exact k5
 have q9:c7.get p=some ⟨[i64 N,S],26,2,0,true⟩:=by rw[a7];exact q7
 have r0:c7.get r6=some ⟨[i64 0,cI],26,2,0,true⟩:=by rw[a7];exact q8
 have r1:c7.get a6=some ⟨[i64 (aC k N),i64 (aC (aF k 13) N),i64 (aC (aF k 170) 5),i64 (aC (aF k 900) 9)],37,4,0,true⟩:=by rw[a7];exact j9
 have g0:=o7.same (M':=c7) (fun id b h=>by rw[a7];exact h)
 obtain⟨m3,p2,b4,l7,k7,i2,b0,e6,g9⟩:=aH (x:=(md,3)) k6 cW (⟨⟨_,_,rfl,rfl,rfl⟩,rfl⟩)
 have g1:=g0.ext b0
 have i8:=b0.old q9
 have i9:=b0.old r0
 have d0:=b0.old r1
 have d9:m3=(i64 (aC md 3)):=g9
 subst d9
 have h4:=p5.trans b0
 obtain⟨m4,p3,c4,l8,k8,i3,b1,e7,h0⟩:=aH (x:=((IntKind.wrap .i64 ((aC k N)+(aC (aF k 13) N))),2)) e6 cW (⟨⟨_,_,rfl,rfl,rfl⟩,rfl⟩)
 have g2:=g1.ext b1
 have j0:=b1.old i8
 have j1:=b1.old i9
 have j2:=b1.old d0
 have e0:m4=(i64 (aC (IntKind.wrap .i64 ((aC k N)+(aC (aF k 13) N))) 2)):=h0
 subst e0
 have h5:=h4.trans b1
 obtain⟨b9,m0,d1,b8,h6,e8,o0⟩:=bH (o:=2) (v:=(i64 (aC (IntKind.wrap .i64 ((aC k N)+(aC (aF k 13) N))) 2))) (new:= [i64 (aC k N),i64 (aC (aF k 13) N),i64 (aC (IntKind.wrap .i64 ((aC k N)+(aC (aF k 13) N))) 2),i64 (aC (aF k 900) 9)]) h5 f3 e7 He j2 rfl rfl (Nat.zero_le _) (Nat.le_of_ble_eq_true rfl) rfl
 replace d1:b9.get a6=some ⟨[i64 (aC k N),i64 (aC (aF k 13) N),i64 (aC (IntKind.wrap .i64 ((aC k N)+(aC (aF k 13) N))) 2),i64 (aC (aF k 900) 9)],37,4,0,true⟩:=d1
 have g3:=g2.keep (by simp) (fun id h _=>b8 id h)
 have j3:=(b8 _ c1).trans j0
 have j4:=(b8 _ dr6b69).trans j1
 obtain⟨m5,p4,b5,l9,k9,i4,b2,e9,h3⟩:=aH (x:=(k,31)) e8 cW (⟨⟨_,_,rfl,rfl,rfl⟩,rfl⟩)
 have g4:=g3.ext b2
 have d2:=b2.old j3
 have e2:=b2.old j4
 have d3:=b2.old d1
 have e1:m5=(i64 (aC k 31)):=h3
 subst e1
 have d6:=h6.trans b2
 obtain⟨a5,c5,b7,d7,e3,b3,f0⟩:=bG e9 ⟨[i64 (aC k N),i64 (aC (aF k 13) N),i64 (aC (IntKind.wrap .i64 ((aC k N)+(aC (aF k 13) N))) 2),i64 (aC (aF k 900) 9)],37,4,0,true⟩
 have n9:M0.next<=a5:=by rw[<-b7];exact d6.next
 have i1:p≠a5:=by have:=aA.lt_of_get d2;omega
 have dr6b156:r6≠a5:=by have:=aA.lt_of_get e2;omega
 have db69b156:a6≠a5:=by have:=aA.lt_of_get d3;omega
 have g5:=g4.new b7 b3
 have e4:=b3.old d2
 have e5:=b3.old e2
 have j5:=b3.old d3
 have h7:=d6.trans b3
 obtain⟨c0,S170,c6,m1,h8,f1,a9,c2,n8⟩:=iE (P:=Try.prog) (sT:=24) (xT:=24) (y:=32) (c:=2) g5 h7 f0 (by intro x hx;simp only [List.mem_cons,List.not_mem_nil,or_false] at hx;rcases hx with rfl|rfl|rfl|rfl<;>first|exact aA.lt_of_get e3|exact aA.lt_of_get j5|exact aA.lt_of_get e4|exact aA.lt_of_get e5) (by kernel_rfl) (by kernel_rfl) (by kernel_rfl) (by kernel_rfl) (by decide) (by decide) rfl hl30 e3 (o:=0) (new:= [i64 (aC k N),i64 (aC (aF k 13) N),i64 (aC (IntKind.wrap .i64 ((aC k N)+(aC (aF k 13) N))) 2),i64 (aC (aF k 900) 9)]) rfl rfl rfl
 have j6:=c2 _ _ e4 (by simp)
 have j7:=c2 _ _ e5 (by simp)
 obtain⟨b6,m2,d4,c3,h9,f2,o1⟩:=bH (o:=1) (v:=S170) (new:= [i64 N,S170]) h8 np f1 Nj j6 (by rw[cC a9.isCell];rfl) (by rw[cC a9.isCell];show(isCell _&&true)=true;rw[a9.isCell];rfl) (Nat.zero_le _) (Nat.le_of_ble_eq_true rfl) (by rw[cC a9.isCell];rfl)
 replace d4:b6.get p=some ⟨[i64 N,S170],26,2,0,true⟩:=d4
 have g8:=a9.keep (by simp) (fun id h _=>c3 id h)
 have j8:=(c3 _ (Ne.symm dpr6)).trans j7
 have hraw:oR Try.prog [] 100 Try.f10 (q10.loopAt 0) [(1,(aD bb o m c)),(2,(i64 md)),(6,(pt r6 0)),(7,(pt p 0)),(8,(i64 (i:Int)))] M [aM 10,aM 12,aM 15,aM 16,aM 22,aU 24 (i64 k),aU 32 (i64 N),bL 34 (i64 (aC k N)) a0,aU 42 (i64 N),bL 44 (i64 (aC (aF k 13) N)) a2,bL 50 (i64 (aC (aF k 170) 5)) a3,bL 56 (i64 (aC (aF k 900) 9)) a8,bL 60 (pt a6 0) (aA.mk a4.blks a4.next (aS 0 [⟨14,1,a3.next,a8.next⟩,⟨11,1,a2.next,a3.next⟩,⟨8,1,a0.next,a2.next⟩,⟨3,1,M.next,a0.next⟩,⟨2,1,M.next,M.next⟩]++M.hide) a4.log),lP 62 a1,bL 66 (i64 (aC md 3)) b4,aM 69,aU 73 (i64 (aC k N)),aU 77 (i64 (aC (aF k 13) N)),bL 81 (i64 (aC (IntKind.wrap .i64 ((aC k N)+(aC (aF k 13) N))) 2)) c4,lP 85 b9,bL 89 (i64 (aC k 31)) b5,aO 92,aU 96 S,aU 98 (.agg ⟨[i64 (aC k N),i64 (aC (aF k 13) N),i64 (aC (IntKind.wrap .i64 ((aC k N)+(aC (aF k 13) N))) 2),i64 (aC (aF k 900) 9)]⟩),bL 100 (aD a5 0 1 2) c5,.at 102 ((bif c0 then 1 else 2),.val S170,c6),lP 106 b6] [1,2,6,7,8]=some (.normal,[some (aD bb o m c),some (i64 md),some (pt r6 0),some (pt p 0),some (i64 (IntKind.wrap .i64 ((i:Int)+(1:Int))))],b6,[qT (decide ((i:Int)<(m:Int))),qT (decide ((i:Int)<(m:Int))),qT (decide ((i:Int)<(m:Int))),qT (decide ((i:Int)<(40:Int))),.q (.inb (i:Int) m) (fM true),qL 3 bb (o+((i:Int):Int).toNat*1) M (i64 k),qL 3 p 0 (aA.mk M.blks M.next M.hide []) (i64 N),qC 19 [i64 k,i64 N] (aA.mk M.blks M.next M.hide []) (i64 (aC k N)) a0,qL 3 p 0 (aA.mk a0.blks a0.next (aS 64 [⟨3,1,M.next,a0.next⟩,⟨2,1,M.next,M.next⟩]++M.hide) a0.log) (i64 N),qT (Nat.blt p M.next),qC 19 [i64 (aF k 13),i64 N] (aA.mk a0.blks a0.next M.hide a0.log) (i64 (aC (aF k 13) N)) a2,qC 19 [i64 (aF k 170),i64 5] (aA.mk a2.blks a2.next M.hide a2.log) (i64 (aC (aF k 170) 5)) a3,qC 19 [i64 (aF k 900),i64 9] (aA.mk a3.blks a3.next M.hide a3.log) (i64 (aC (aF k 900) 9)) a8,.eq (dL Try.prog 37 (aA.mk a8.blks a8.next (aS 0 [⟨14,1,a3.next,a8.next⟩,⟨11,1,a2.next,a3.next⟩,⟨8,1,a0.next,a2.next⟩,⟨3,1,M.next,a0.next⟩,⟨2,1,M.next,M.next⟩]++M.hide) a8.log)) (1,.val (pt a6 0),(aA.mk a4.blks a4.next (aS 0 [⟨14,1,a3.next,a8.next⟩,⟨11,1,a2.next,a3.next⟩,⟨8,1,a0.next,a2.next⟩,⟨3,1,M.next,a0.next⟩,⟨2,1,M.next,M.next⟩]++M.hide) a4.log)),qS 37 a6 0 (.agg ⟨[i64 (aC k N),i64 (aC (aF k 13) N),i64 (aC (aF k 170) 5),i64 (aC (aF k 900) 9)]⟩) (aA.mk (aA.mk a4.blks a4.next (aS 0 [⟨14,1,a3.next,a8.next⟩,⟨11,1,a2.next,a3.next⟩,⟨8,1,a0.next,a2.next⟩,⟨3,1,M.next,a0.next⟩,⟨2,1,M.next,M.next⟩]++M.hide) a4.log).blks (aA.mk a4.blks a4.next (aS 0 [⟨14,1,a3.next,a8.next⟩,⟨11,1,a2.next,a3.next⟩,⟨8,1,a0.next,a2.next⟩,⟨3,1,M.next,a0.next⟩,⟨2,1,M.next,M.next⟩]++M.hide) a4.log).next M.hide (aA.mk a4.blks a4.next (aS 0 [⟨14,1,a3.next,a8.next⟩,⟨11,1,a2.next,a3.next⟩,⟨8,1,a0.next,a2.next⟩,⟨3,1,M.next,a0.next⟩,⟨2,1,M.next,M.next⟩]++M.hide) a4.log).log) a1,qT (cQ [p] a1.log),qC 19 [i64 md,i64 3] (aA.mk a1.blks a1.next M.hide (a1.log++M.log)) (i64 (aC md 3)) b4,qT ((aC md 3)==(0:Int)),qL 3 a6 0 b4 (i64 (aC k N)),qL 3 a6 1 b4 (i64 (aC (aF k 13) N)),qC 19 [i64 (IntKind.wrap .i64 ((aC k N)+(aC (aF k 13) N))),i64 2] b4 (i64 (aC (IntKind.wrap .i64 ((aC k N)+(aC (aF k 13) N))) 2)) c4,qS 3 a6 2 (i64 (aC (IntKind.wrap .i64 ((aC k N)+(aC (aF k 13) N))) 2)) c4 b9,qC 19 [i64 k,i64 31] b9 (i64 (aC k 31)) b5,qF ((aC k 31)==(0:Int)),qL 24 p 1 b5 S,qL 37 a6 0 b5 (.agg ⟨[i64 (aC k N),i64 (aC (aF k 13) N),i64 (aC (IntKind.wrap .i64 ((aC k N)+(aC (aF k 13) N))) 2),i64 (aC (aF k 900) 9)]⟩),.eq (bE Try.prog 24 1 [(0,(.agg ⟨[i64 (aC k N),i64 (aC (aF k 13) N),i64 (aC (IntKind.wrap .i64 ((aC k N)+(aC (aF k 13) N))) 2),i64 (aC (aF k 900) 9)]⟩))] b5) (1,.val (aD a5 0 1 2),c5),.q (.append [24,24] S (aD a5 0 1 2) c5) ((bif c0 then 1 else 2),.val S170,c6),qS 24 p 1 S170 c6 b6]):=by cases c0<;>kernel_rfl
 dsimp only at hraw
 have s4:aA.mk M.blks M.next M.hide []=R1:=c8.symm
 have s5:aA.mk a0.blks a0.next M.hide a0.log=a0:=by rw[(show M.hide=a0.hide from((X0).hide.trans (i0).hide.symm))]
 have s6:aA.mk a0.blks a0.next (aS 64 [⟨3,1,M.next,a0.next⟩,⟨2,1,M.next,M.next⟩]++M.hide) a0.log=bP (aS 64 [⟨3,1,M.next,a0.next⟩,⟨2,1,M.next,M.next⟩]) a0:=by rw[(show M.hide=a0.hide from((X0).hide.trans (i0).hide.symm))];rfl
 have s7:aA.mk a2.blks a2.next M.hide a2.log=a2:=by rw[(show M.hide=a2.hide from((X0).hide.trans (m6).hide.symm))]
 have s8:aA.mk a3.blks a3.next M.hide a3.log=a3:=by rw[(show M.hide=a3.hide from((X0).hide.trans (m7).hide.symm))]
 have s9:aA.mk a4.blks a4.next M.hide a4.log=a4:=by rw[(show M.hide=a4.hide from((X0).hide.trans (m9).hide.symm))]
 have t0:(aA.mk a1.blks a1.next M.hide (a1.log++M.log))=(aA.mk a1.blks a1.next a1.hide (a1.log++M.log)):=by rw[(show M.hide=a1.hide from((X0).hide.trans (n0).hide.symm))]
 have t1:(aA.mk a1.blks a1.next a1.hide (a1.log++M.log))=c7:=a7.symm
 try rw[s4] at hraw
 try rw[s5] at hraw
 try rw[s6] at hraw
 try rw[s7] at hraw
 try rw[s8] at hraw
 try rw[s9] at hraw
 try rw[t0] at hraw
 try rw[t1] at hraw
 obtain⟨T1,h1,h2⟩:=Rd.told aJ aI (fun B=>lO (gF 19 Tv (gQ _))) (fun _ _=>rfl) hraw (hk (bT cc0) (hk (bT cc0) (hk (bT cc0) (hk (bT cc1) (hk (eW (by omega) (by simp at cc0;omega)) (hk (iP (aE X0 hld0)) (hk (lC cO g6 rfl) (hk (aN rfl r9 r3 n1) (hk (lC cO (bS.2 ⟨cY (by simp;omega),n5⟩) rfl) (hk (mE ltpM) (hk (aN rfl s0 r4 n2) (hk (aN rfl s1 r5 n3) (hk (aN rfl s2 r7 n4) (hk (bZ (by rw[<-c9,<-d8];kernel_rfl) Nat.one_ne_zero) (hk (eF s3) (hk (dZ (by rw[l5];simp<;>omega)) (hk (aN rfl l7 k7 i2) (hk (bT cc2) (hk (lC cO d0 rfl) (hk (lC cO d0 rfl) (hk (aN rfl l8 k8 i3) (hk (eF m0) (hk (aN rfl l9 k9 i4) (hk (bF cc3) (hk (lC cP d2 rfl) (hk (lA ⟨tM,lS⟩ d3 rfl) (hk (bZ (by rw[<-b7,<-d7];kernel_rfl) Nat.one_ne_zero) (hk (jD m1 (by cases c0<;>simp)) (hk (eF m2) hn)))))))))))))))))))))))))))))
 exact⟨T1,b6,S170,h1,h2,h9,f2,d4,j8,g8.less (by intro x hx;simp only [List.mem_cons,List.not_mem_nil,or_false] at hx;rcases hx with rfl|rfl<;>simp)⟩
theorem r91z(p r6 bb o m c i:Nat)(N md k:Int)(S:Value)(l:List E4){M M0:aA}(hM:aB M)(X0:Ext M0 M)(np:M0.next<=p)(gp:M.get p=some ⟨[i64 N,S],26,2,0,true⟩)(gr6h:M.get r6=some ⟨[i64 0,cI],26,2,0,true⟩)(dpr6:p≠r6)(hN62:(decide (0<N)&&decide (N<2^62))=true)(hA:cU 37 4 M0 [p,r6] l.length ((l.map kL).flatten) S M)(hl30:l.length<1073741824)(cc0:(decide ((i:Int)<(m:Int)))=true)(cc1:(decide ((i:Int)<(40:Int)))=true)(cc2:((aC md 3)==(0:Int))=false)(cc3:((aC md 3)==(1:Int))=true)(cc4:((aC k 31)==(0:Int))=true)(hld0:aX Try.prog 3 ⟨bb,o+((i:Int):Int).toNat*1,none⟩ M0=some (i64 k)): ∃T1 M' S210,Rd Try.prog [] (q10.loopAt 0) Try.f10.ntmps (fr [(1,(aD bb o m c)),(2,(i64 md)),(6,(pt r6 0)),(7,(pt p 0)),(8,(i64 (i:Int)))]) M .normal T1 M'/\ [1,2,6,7,8].map T1.get= [some (aD bb o m c),some (i64 md),some (pt r6 0),some (pt p 0),some (i64 (IntKind.wrap .i64 ((i:Int)+(1:Int))))]/\Ext M0 M'/\aB M'/\M'.get p=some ⟨[i64 N,S210],26,2,0,true⟩/\M'.get r6=some ⟨[i64 0,cI],26,2,0,true⟩/\cU 37 4 M0 [p,r6] (l.length+1) ((l.map kL).flatten++ [i64 (aC k N),i64 (aC (aF k 13) N),i64 (aC (IntKind.wrap .i64 ((aC (aF k 170) 5)*(aC k N))) 3),i64 (IntKind.wrap .i64 ((2147483647:Int)-(aC (aF k 31) 3)))]) S210 M':=by
 obtain⟨R1,d5⟩: ∃m:aA,m=aA.mk M.blks M.next M.hide []:=⟨_,rfl⟩
 have X3:Ext (aA.mk M0.blks M0.next M0.hide []) R1:=by rw[d5];exact Ext.aside (X0)
 have w0:R1.log= []:=by rw[d5]
 have v5:aB R1:=by rw[d5];exact aB.log hM
 have ltpM:p<M.next:=by have h:=aA.lt_of_get gp;exact h
 have g6:R1.get p=some ⟨[i64 N,S],26,2,0,true⟩:=by rw[d5];exact gp
 have ltr6M:r6<M.next:=by have h:=aA.lt_of_get gr6h;exact h
 have g7:R1.get r6=some ⟨[i64 0,cI],26,2,0,true⟩:=by rw[d5];exact gr6h
 have A8:=hA.same (M':=R1) (fun id b h=>by rw[d5];exact h)
 obtain⟨w9,x8,a0,w1,v6,r0,g8,n0,s9⟩:=aH (x:=(k,N)) v5 cW (⟨⟨_,_,rfl,rfl,rfl⟩,hN62⟩)
 have s3:=A8.ext g8
 have r4:=g8.old g6
 have u0:=g8.old g7
 have t9:w9=(i64 (aC k N)):=s9
 subst t9
 have o2:a0.log= []:=by rw[<-r0];exact w0
 have j9:=X3.trans g8
 obtain⟨w24,x9,a2,w2,v7,r1,g9,n1,t0⟩:=aH (x:=((aF k 13),N)) n0 cW (⟨⟨_,_,rfl,rfl,rfl⟩,hN62⟩)
 have s4:=s3.ext g9
 have u1:=g9.old r4
 have u2:=g9.old u0
 have k6:w24=(i64 (aC (aF k 13) N)):=t0
 subst k6
 have o3:a2.log= []:=by rw[<-r1];exact o2
 have q5:=j9.trans g9
 obtain⟨x6,y0,a3,w3,v8,r2,h0,n2,t1⟩:=aH (x:=((aF k 170),5)) n1 cW (⟨⟨_,_,rfl,rfl,rfl⟩,rfl⟩)
 have s5:=s4.ext h0
 have u3:=h0.old u1
 have u4:=h0.old u2
 have k7:x6=(i64 (aC (aF k 170) 5)):=t1
 subst k7
 have o4:a3.log= []:=by rw[<-r2];exact o3
 have q6:=q5.trans h0
 obtain⟨x7,y1,a9,w5,v9,r3,h3,n3,t2⟩:=aH (x:=((aF k 900),9)) n2 cW (⟨⟨_,_,rfl,rfl,rfl⟩,rfl⟩)
 have s6:=s5.ext h3
 have r5:=h3.old u3
 have r7:=h3.old u4
 have k8:x7=(i64 (aC (aF k 900) 9)):=t2
 subst k8
 have o5:a9.log= []:=by rw[<-r3];exact o4
 have q7:=q6.trans h3
 obtain⟨a5,a4,d6,e5,u5,h4,n4⟩:=bG n3 ⟨[i64 0,i64 0,i64 0,i64 0],37,4,0,true⟩
 have e2:M0.next<=a5:=by rw[<-d6];exact q7.next
 have b9:p≠a5:=by have:=aA.lt_of_get r5;omega
 have dr6b69:r6≠a5:=by have:=aA.lt_of_get r7;omega
 have s7:=s6.new d6 h4
 have u6:=h4.old r5
 have u7:=h4.old r7
 have o6:a4.log= []:=by rw[<-e5];exact o5
 have q8:=q7.trans h4
 obtain⟨a1,w6,m9,e1,q9,n5,o8⟩:=bH (o:=0) (v:=(.agg ⟨[i64 (aC k N),i64 (aC (aF k 13) N),i64 (aC (aF k 170) 5),i64 (aC (aF k 900) 9)]⟩)) (new:= [i64 (aC k N),i64 (aC (aF k 13) N),i64 (aC (aF k 170) 5),i64 (aC (aF k 900) 9)]) q8 e2 n4 lS u5 rfl rfl (Nat.zero_le _) (Nat.le_of_ble_eq_true rfl) rfl
 replace m9:a1.get a5=some ⟨[i64 (aC k N),i64 (aC (aF k 13) N),i64 (aC (aF k 170) 5),i64 (aC (aF k 900) 9)],37,4,0,true⟩:=m9
 have s8:=s7.keep (by simp) (fun id h _=>e1 id h)
 have u9:=(e1 _ b9).trans u6
 have v1:=(e1 _ dr6b69).trans u7
 have o7:a1.log= [a5]:=by rw[o8,o6]
 obtain⟨d4,a7⟩: ∃m:aA,m=(aA.mk a1.blks a1.next a1.hide (a1.log++M.log)):=⟨_,rfl⟩
 have t8:Ext M0 d4:=by rw[a7];exact Ext.join (X0) (q9)
 have n6:aB d4:=by rw[a7];exact n5
 have v2:d4.get p=some ⟨[i64 N,S],26,2,0,true⟩:=by rw[a7];exact u9
 have v3:d4.get r6=some ⟨[i64 0,cI],26,2,0,true⟩:=by rw[a7];exact v1
 have v4:d4.get a5=some ⟨[i64 (aC k N),i64 (aC (aF k 13) N),i64 (aC (aF k 170) 5),i64 (aC (aF k 900) 9)],37,4,0,true⟩:=by rw[a7];exact m9
 have h5:=s8.same (M':=d4) (fun id b h=>by rw[a7];exact h)
 obtain⟨p8,t3,c8,o9,n7,k1,b1,f6,i5⟩:=aH (x:=(md,3)) n6 cW (⟨⟨_,_,rfl,rfl,rfl⟩,rfl⟩)
 have h6:=h5.ext b1
 have k9:=b1.old v2
 have l0:=b1.old v3
 have l1:=b1.old v4
 have e6:p8=(i64 (aC md 3)):=i5
 subst e6
 have j0:=t8.trans b1
 obtain⟨p9,t4,b7,p0,n8,k2,b2,f7,i6⟩:=aH (x:=(md,3)) f6 cW (⟨⟨_,_,rfl,rfl,rfl⟩,rfl⟩)
 have h7:=h6.ext b2
 have l2:=b2.old k9
 have l3:=b2.old l0
 have d7:=b2.old l1
 have e7:p9=(i64 (aC md 3)):=i6
 subst e7
 have j1:=j0.trans b2
 obtain⟨q1,t5,c9,p1,n9,k3,b3,f8,i7⟩:=aH (x:=((IntKind.wrap .i64 ((aC (aF k 170) 5)*(aC k N))),3)) f7 cW (⟨⟨_,_,rfl,rfl,rfl⟩,rfl⟩)
 have h8:=h7.ext b3
 have l4:=b3.old l2
 have l5:=b3.old l3
 have l6:=b3.old d7
 have e8:q1=(i64 (aC (IntKind.wrap .i64 ((aC (aF k 170) 5)*(aC k N))) 3)):=i7
 subst e8
 have j2:=j1.trans b3
 obtain⟨c4,p4,d8,c2,j3,f9,s0⟩:=bH (o:=2) (v:=(i64 (aC (IntKind.wrap .i64 ((aC (aF k 170) 5)*(aC k N))) 3))) (new:= [i64 (aC k N),i64 (aC (aF k 13) N),i64 (aC (IntKind.wrap .i64 ((aC (aF k 170) 5)*(aC k N))) 3),i64 (aC (aF k 900) 9)]) j2 e2 f8 He l6 rfl rfl (Nat.zero_le _) (Nat.le_of_ble_eq_true rfl) rfl
 replace d8:c4.get a5=some ⟨[i64 (aC k N),i64 (aC (aF k 13) N),i64 (aC (IntKind.wrap .i64 ((aC (aF k 170) 5)*(aC k N))) 3),i64 (aC (aF k 900) 9)],37,4,0,true⟩:=d8
 have h9:=h8.keep (by simp) (fun id h _=>c2 id h)
 have l7:=(c2 _ b9).trans l4
 have l8:=(c2 _ dr6b69).trans l5
 obtain⟨q2,t6,d0,p2,o0,k4,b4,g0,i8⟩:=aH (x:=(k,31)) f9 cW (⟨⟨_,_,rfl,rfl,rfl⟩,rfl⟩)
 have i0:=h9.ext b4
 have l9:=b4.old l7
 have m0:=b4.old l8
 have m1:=b4.old d8
 have e9:q2=(i64 (aC k 31)):=i8
 subst e9
 have j4:=j3.trans b4
 obtain⟨q3,t7,d1,p3,o1,k5,b5,g1,i9⟩:=aH (x:=((aF k 31),3)) g0 cW (⟨⟨_,_,rfl,rfl,rfl⟩,rfl⟩)
 have i1:=i0.ext b5
 have m2:=b5.old l9
 have m3:=b5.old m0
 have m4:=b5.old m1
 have f0:q3=(i64 (aC (aF k 31) 3)):=i9
 subst f0
 have j5:=j4.trans b5
 obtain⟨a8,p5,c1,c3,e3,g2,s1⟩:=bH (o:=3) (v:=(i64 (IntKind.wrap .i64 ((2147483647:Int)-(aC (aF k 31) 3))))) (new:= [i64 (aC k N),i64 (aC (aF k 13) N),i64 (aC (IntKind.wrap .i64 ((aC (aF k 170) 5)*(aC k N))) 3),i64 (IntKind.wrap .i64 ((2147483647:Int)-(aC (aF k 31) 3)))]) j5 e2 g1 He m4 rfl rfl (Nat.zero_le _) (Nat.le_of_ble_eq_true rfl) rfl
 replace c1:a8.get a5=some ⟨[i64 (aC k N),i64 (aC (aF k 13) N),i64 (aC (IntKind.wrap .i64 ((aC (aF k 170) 5)*(aC k N))) 3),i64 (IntKind.wrap .i64 ((2147483647:Int)-(aC (aF k 31) 3)))],37,4,0,true⟩:=c1
 have i2:=i1.keep (by simp) (fun id h _=>c3 id h)
 have d9:=(c3 _ b9).trans m2
 have f1:=(c3 _ dr6b69).trans m3
 obtain⟨a6,d2,c0,e4,f2,b6,g3⟩:=bG g2 ⟨[i64 (aC k N),i64 (aC (aF k 13) N),i64 (aC (IntKind.wrap .i64 ((aC (aF k 170) 5)*(aC k N))) 3),i64 (IntKind.wrap .i64 ((2147483647:Int)-(aC (aF k 31) 3)))],37,4,0,true⟩
 have r9:M0.next<=a6:=by rw[<-c0];exact e3.next
 have k0:p≠a6:=by have:=aA.lt_of_get d9;omega
 have dr6b196:r6≠a6:=by have:=aA.lt_of_get f1;omega
 have db69b196:a5≠a6:=by have:=aA.lt_of_get c1;omega
 have i3:=i2.new c0 b6
 have f3:=b6.old d9
 have f5:=b6.old f1
 have m5:=b6.old c1
 have j6:=e3.trans b6
 obtain⟨c5,S210,d3,p6,j7,g4,b0,c6,r8⟩:=iE (P:=Try.prog) (sT:=24) (xT:=24) (y:=32) (c:=2) i3 j6 g3 (by intro x hx;simp only [List.mem_cons,List.not_mem_nil,or_false] at hx;rcases hx with rfl|rfl|rfl|rfl<;>first|exact aA.lt_of_get f2|exact aA.lt_of_get m5|exact aA.lt_of_get f3|exact aA.lt_of_get f5) (by kernel_rfl) (by kernel_rfl) (by kernel_rfl) (by kernel_rfl) (by decide) (by decide) rfl hl30 f2 (o:=0) (new:= [i64 (aC k N),i64 (aC (aF k 13) N),i64 (aC (IntKind.wrap .i64 ((aC (aF k 170) 5)*(aC k N))) 3),i64 (IntKind.wrap .i64 ((2147483647:Int)-(aC (aF k 31) 3)))]) rfl rfl rfl
 have m6:=c6 _ _ f3 (by simp)
 have m7:=c6 _ _ f5 (by simp)
 obtain⟨b8,p7,e0,c7,j8,g5,s2⟩:=bH (o:=1) (v:=S210) (new:= [i64 N,S210]) j7 np g4 Nj m6 (by rw[cC b0.isCell];rfl) (by rw[cC b0.isCell];show(isCell _&&true)=true;rw[b0.isCell];rfl) (Nat.zero_le _) (Nat.le_of_ble_eq_true rfl) (by rw[cC b0.isCell];rfl)
 replace e0:b8.get p=some ⟨[i64 N,S210],26,2,0,true⟩:=e0
 have i4:=b0.keep (by simp) (fun id h _=>c7 id h)
 have m8:=(c7 _ (Ne.symm dpr6)).trans m7
 have hraw:oR Try.prog [] 100 Try.f10 (q10.loopAt 0) [(1,(aD bb o m c)),(2,(i64 md)),(6,(pt r6 0)),(7,(pt p 0)),(8,(i64 (i:Int)))] M [aM 10,aM 12,aM 15,aM 16,aM 22,aU 24 (i64 k),aU 32 (i64 N),bL 34 (i64 (aC k N)) a0,aU 42 (i64 N),bL 44 (i64 (aC (aF k 13) N)) a2,bL 50 (i64 (aC (aF k 170) 5)) a3,bL 56 (i64 (aC (aF k 900) 9)) a9,bL 60 (pt a5 0) (aA.mk a4.blks a4.next (aS 0 [⟨14,1,a3.next,a9.next⟩,⟨11,1,a2.next,a3.next⟩,⟨8,1,a0.next,a2.next⟩,⟨3,1,M.next,a0.next⟩,⟨2,1,M.next,M.next⟩]++M.hide) a4.log),lP 62 a1,bL 66 (i64 (aC md 3)) c8,aO 69,bL 73 (i64 (aC md 3)) b7,aM 76,aU 80 (i64 (aC (aF k 170) 5)),aU 84 (i64 (aC k N)),bL 88 (i64 (aC (IntKind.wrap .i64 ((aC (aF k 170) 5)*(aC k N))) 3)) c9,lP 92 c4,bL 96 (i64 (aC k 31)) d0,aM 99,bL 105 (i64 (aC (aF k 31) 3)) d1,lP 111 a8,aU 115 S,aU 117 (.agg ⟨[i64 (aC k N),i64 (aC (aF k 13) N),i64 (aC (IntKind.wrap .i64 ((aC (aF k 170) 5)*(aC k N))) 3),i64 (IntKind.wrap .i64 ((2147483647:Int)-(aC (aF k 31) 3)))]⟩),bL 119 (aD a6 0 1 2) d2,.at 121 ((bif c5 then 1 else 2),.val S210,d3),lP 125 b8] [1,2,6,7,8]=some (.normal,[some (aD bb o m c),some (i64 md),some (pt r6 0),some (pt p 0),some (i64 (IntKind.wrap .i64 ((i:Int)+(1:Int))))],b8,[qT (decide ((i:Int)<(m:Int))),qT (decide ((i:Int)<(m:Int))),qT (decide ((i:Int)<(m:Int))),qT (decide ((i:Int)<(40:Int))),.q (.inb (i:Int) m) (fM true),qL 3 bb (o+((i:Int):Int).toNat*1) M (i64 k),qL 3 p 0 (aA.mk M.blks M.next M.hide []) (i64 N),qC 19 [i64 k,i64 N] (aA.mk M.blks M.next M.hide []) (i64 (aC k N)) a0,qL 3 p 0 (aA.mk a0.blks a0.next (aS 64 [⟨3,1,M.next,a0.next⟩,⟨2,1,M.next,M.next⟩]++M.hide) a0.log) (i64 N),qT (Nat.blt p M.next),qC 19 [i64 (aF k 13),i64 N] (aA.mk a0.blks a0.next M.hide a0.log) (i64 (aC (aF k 13) N)) a2,qC 19 [i64 (aF k 170),i64 5] (aA.mk a2.blks a2.next M.hide a2.log) (i64 (aC (aF k 170) 5)) a3,qC 19 [i64 (aF k 900),i64 9] (aA.mk a3.blks a3.next M.hide a3.log) (i64 (aC (aF k 900) 9)) a9,.eq (dL Try.prog 37 (aA.mk a9.blks a9.next (aS 0 [⟨14,1,a3.next,a9.next⟩,⟨11,1,a2.next,a3.next⟩,⟨8,1,a0.next,a2.next⟩,⟨3,1,M.next,a0.next⟩,⟨2,1,M.next,M.next⟩]++M.hide) a9.log)) (1,.val (pt a5 0),(aA.mk a4.blks a4.next (aS 0 [⟨14,1,a3.next,a9.next⟩,⟨11,1,a2.next,a3.next⟩,⟨8,1,a0.next,a2.next⟩,⟨3,1,M.next,a0.next⟩,⟨2,1,M.next,M.next⟩]++M.hide) a4.log)),qS 37 a5 0 (.agg ⟨[i64 (aC k N),i64 (aC (aF k 13) N),i64 (aC (aF k 170) 5),i64 (aC (aF k 900) 9)]⟩) (aA.mk (aA.mk a4.blks a4.next (aS 0 [⟨14,1,a3.next,a9.next⟩,⟨11,1,a2.next,a3.next⟩,⟨8,1,a0.next,a2.next⟩,⟨3,1,M.next,a0.next⟩,⟨2,1,M.next,M.next⟩]++M.hide) a4.log).blks (aA.mk a4.blks a4.next (aS 0 [⟨14,1,a3.next,a9.next⟩,⟨11,1,a2.next,a3.next⟩,⟨8,1,a0.next,a2.next⟩,⟨3,1,M.next,a0.next⟩,⟨2,1,M.next,M.next⟩]++M.hide) a4.log).next M.hide (aA.mk a4.blks a4.next (aS 0 [⟨14,1,a3.next,a9.next⟩,⟨11,1,a2.next,a3.next⟩,⟨8,1,a0.next,a2.next⟩,⟨3,1,M.next,a0.next⟩,⟨2,1,M.next,M.next⟩]++M.hide) a4.log).log) a1,qT (cQ [p] a1.log),qC 19 [i64 md,i64 3] (aA.mk a1.blks a1.next M.hide (a1.log++M.log)) (i64 (aC md 3)) c8,qF ((aC md 3)==(0:Int)),qC 19 [i64 md,i64 3] c8 (i64 (aC md 3)) b7,qT ((aC md 3)==(1:Int)),qL 3 a5 2 b7 (i64 (aC (aF k 170) 5)),qL 3 a5 0 b7 (i64 (aC k N)),qC 19 [i64 (IntKind.wrap .i64 ((aC (aF k 170) 5)*(aC k N))),i64 3] b7 (i64 (aC (IntKind.wrap .i64 ((aC (aF k 170) 5)*(aC k N))) 3)) c9,qS 3 a5 2 (i64 (aC (IntKind.wrap .i64 ((aC (aF k 170) 5)*(aC k N))) 3)) c9 c4,qC 19 [i64 k,i64 31] c4 (i64 (aC k 31)) d0,qT ((aC k 31)==(0:Int)),qC 19 [i64 (aF k 31),i64 3] d0 (i64 (aC (aF k 31) 3)) d1,qS 3 a5 3 (i64 (IntKind.wrap .i64 ((2147483647:Int)-(aC (aF k 31) 3)))) d1 a8,qL 24 p 1 a8 S,qL 37 a5 0 a8 (.agg ⟨[i64 (aC k N),i64 (aC (aF k 13) N),i64 (aC (IntKind.wrap .i64 ((aC (aF k 170) 5)*(aC k N))) 3),i64 (IntKind.wrap .i64 ((2147483647:Int)-(aC (aF k 31) 3)))]⟩),.eq (bE Try.prog 24 1 [(0,(.agg ⟨[i64 (aC k N),i64 (aC (aF k 13) N),i64 (aC (IntKind.wrap .i64 ((aC (aF k 170) 5)*(aC k N))) 3),i64 (IntKind.wrap .i64 ((2147483647:Int)-(aC (aF k 31) 3)))]⟩))] a8) (1,.val (aD a6 0 1 2),d2),.q (.append [24,24] S (aD a6 0 1 2) d2) ((bif c5 then 1 else 2),.val S210,d3),qS 24 p 1 S210 d3 b8]):=by cases c5<;>kernel_rfl
 dsimp only at hraw
 have w7:aA.mk M.blks M.next M.hide []=R1:=d5.symm
 have w8:aA.mk a0.blks a0.next M.hide a0.log=a0:=by rw[(show M.hide=a0.hide from((X0).hide.trans (j9).hide.symm))]
 have x0:aA.mk a0.blks a0.next (aS 64 [⟨3,1,M.next,a0.next⟩,⟨2,1,M.next,M.next⟩]++M.hide) a0.log=bP (aS 64 [⟨3,1,M.next,a0.next⟩,⟨2,1,M.next,M.next⟩]) a0:=by rw[(show M.hide=a0.hide from((X0).hide.trans (j9).hide.symm))];rfl
 have x1:aA.mk a2.blks a2.next M.hide a2.log=a2:=by rw[(show M.hide=a2.hide from((X0).hide.trans (q5).hide.symm))]
 have x2:aA.mk a3.blks a3.next M.hide a3.log=a3:=by rw[(show M.hide=a3.hide from((X0).hide.trans (q6).hide.symm))]
 have x3:aA.mk a4.blks a4.next M.hide a4.log=a4:=by rw[(show M.hide=a4.hide from((X0).hide.trans (q8).hide.symm))]
 have x4:(aA.mk a1.blks a1.next M.hide (a1.log++M.log))=(aA.mk a1.blks a1.next a1.hide (a1.log++M.log)):=by rw[(show M.hide=a1.hide from((X0).hide.trans (q9).hide.symm))]
 have x5:(aA.mk a1.blks a1.next a1.hide (a1.log++M.log))=d4:=a7.symm
 try rw[w7] at hraw
 try rw[w8] at hraw
 try rw[x0] at hraw
 try rw[x1] at hraw
 try rw[x2] at hraw
 try rw[x3] at hraw
 try rw[x4] at hraw
 try rw[x5] at hraw
 obtain⟨T1,h1,h2⟩:=Rd.told aJ aI (fun B=>lO (gF 19 Tv (gQ _))) (fun _ _=>rfl) hraw (hk (bT cc0) (hk (bT cc0) (hk (bT cc0) (hk (bT cc1) (hk (eW (by omega) (by simp at cc0;omega)) (hk (iP (aE X0 hld0)) (hk (lC cO g6 rfl) (hk (aN rfl w1 v6 r0) (hk (lC cO (bS.2 ⟨cY (by simp;omega),r4⟩) rfl) (hk (mE ltpM) (hk (aN rfl w2 v7 r1) (hk (aN rfl w3 v8 r2) (hk (aN rfl w5 v9 r3) (hk (bZ (by rw[<-d6,<-e5];kernel_rfl) Nat.one_ne_zero) (hk (eF w6) (hk (dZ (by rw[o7];simp<;>omega)) (hk (aN rfl o9 n7 k1) (hk (bF cc2) (hk (aN rfl p0 n8 k2) (hk (bT cc3) (hk (lC cO d7 rfl) (hk (lC cO d7 rfl) (hk (aN rfl p1 n9 k3) (hk (eF p4) (hk (aN rfl p2 o0 k4) (hk (bT cc4) (hk (aN rfl p3 o1 k5) (hk (eF p5) (hk (lC cP d9 rfl) (hk (lA ⟨tM,lS⟩ c1 rfl) (hk (bZ (by rw[<-c0,<-e4];kernel_rfl) Nat.one_ne_zero) (hk (jD p6 (by cases c5<;>simp)) (hk (eF p7) hn)))))))))))))))))))))))))))))))))
 exact⟨T1,b8,S210,h1,h2,j8,g5,e0,m8,i4.less (by intro x hx;simp only [List.mem_cons,List.not_mem_nil,or_false] at hx;rcases hx with rfl|rfl<;>simp)⟩
theorem r91y(p r6 bb o m c i:Nat)(N md k:Int)(S:Value)(l:List E4){M M0:aA}(hM:aB M)(X0:Ext M0 M)(np:M0.next<=p)(gp:M.get p=some ⟨[i64 N,S],26,2,0,true⟩)(gr6h:M.get r6=some ⟨[i64 0,cI],26,2,0,true⟩)(dpr6:p≠r6)(hN62:(decide (0<N)&&decide (N<2^62))=true)(hA:cU 37 4 M0 [p,r6] l.length ((l.map kL).flatten) S M)(hl30:l.length<1073741824)(cc0:(decide ((i:Int)<(m:Int)))=true)(cc1:(decide ((i:Int)<(40:Int)))=true)(cc2:((aC md 3)==(0:Int))=false)(cc3:((aC md 3)==(1:Int))=true)(cc4:((aC k 31)==(0:Int))=false)(hld0:aX Try.prog 3 ⟨bb,o+((i:Int):Int).toNat*1,none⟩ M0=some (i64 k)): ∃T1 M' S185,Rd Try.prog [] (q10.loopAt 0) Try.f10.ntmps (fr [(1,(aD bb o m c)),(2,(i64 md)),(6,(pt r6 0)),(7,(pt p 0)),(8,(i64 (i:Int)))]) M .normal T1 M'/\ [1,2,6,7,8].map T1.get= [some (aD bb o m c),some (i64 md),some (pt r6 0),some (pt p 0),some (i64 (IntKind.wrap .i64 ((i:Int)+(1:Int))))]/\Ext M0 M'/\aB M'/\M'.get p=some ⟨[i64 N,S185],26,2,0,true⟩/\M'.get r6=some ⟨[i64 0,cI],26,2,0,true⟩/\cU 37 4 M0 [p,r6] (l.length+1) ((l.map kL).flatten++ [i64 (aC k N),i64 (aC (aF k 13) N),i64 (aC (IntKind.wrap .i64 ((aC (aF k 170) 5)*(aC k N))) 3),i64 (aC (aF k 900) 9)]) S185 M':=by
 obtain⟨R1,d0⟩: ∃m:aA,m=aA.mk M.blks M.next M.hide []:=⟨_,rfl⟩
 have X3:Ext (aA.mk M0.blks M0.next M0.hide []) R1:=by rw[d0];exact Ext.aside (X0)
 have t3:R1.log= []:=by rw[d0]
 have s8:aB R1:=by rw[d0];exact aB.log hM
 have ltpM:p<M.next:=by have h:=aA.lt_of_get gp;exact h
 have g6:R1.get p=some ⟨[i64 N,S],26,2,0,true⟩:=by rw[d0];exact gp
 have ltr6M:r6<M.next:=by have h:=aA.lt_of_get gr6h;exact h
 have g7:R1.get r6=some ⟨[i64 0,cI],26,2,0,true⟩:=by rw[d0];exact gr6h
 have A8:=hA.same (M':=R1) (fun id b h=>by rw[d0];exact h)
 obtain⟨w9,v1,a0,t4,s9,o5,f9,l1,q3⟩:=aH (x:=(k,N)) s8 cW (⟨⟨_,_,rfl,rfl,rfl⟩,hN62⟩)
 have p6:=A8.ext f9
 have o9:=f9.old g6
 have r4:=f9.old g7
 have r3:w9=(i64 (aC k N)):=q3
 subst r3
 have m2:a0.log= []:=by rw[<-o5];exact t3
 have i7:=X3.trans f9
 obtain⟨w24,v2,a2,t5,t0,o6,g0,l2,q5⟩:=aH (x:=((aF k 13),N)) l1 cW (⟨⟨_,_,rfl,rfl,rfl⟩,hN62⟩)
 have p7:=p6.ext g0
 have r5:=g0.old o9
 have r7:=g0.old r4
 have j3:w24=(i64 (aC (aF k 13) N)):=q5
 subst j3
 have m3:a2.log= []:=by rw[<-o6];exact m2
 have o0:=i7.trans g0
 obtain⟨u7,v3,a3,t6,t1,o7,g1,l3,q6⟩:=aH (x:=((aF k 170),5)) l2 cW (⟨⟨_,_,rfl,rfl,rfl⟩,rfl⟩)
 have p8:=p7.ext g1
 have r8:=g1.old r5
 have r9:=g1.old r7
 have j4:u7=(i64 (aC (aF k 170) 5)):=q6
 subst j4
 have m4:a3.log= []:=by rw[<-o7];exact m3
 have o1:=o0.trans g1
 obtain⟨u9,v4,a8,t7,t2,o8,g2,l4,q7⟩:=aH (x:=((aF k 900),9)) l3 cW (⟨⟨_,_,rfl,rfl,rfl⟩,rfl⟩)
 have p9:=p8.ext g2
 have p0:=g2.old r8
 have p1:=g2.old r9
 have j5:u9=(i64 (aC (aF k 900) 9)):=q7
 subst j5
 have m5:a8.log= []:=by rw[<-o8];exact m4
 have o2:=o1.trans g2
 obtain⟨a6,a4,d1,e0,s0,g3,l5⟩:=bG l4 ⟨[i64 0,i64 0,i64 0,i64 0],37,4,0,true⟩
 have f8:M0.next<=a6:=by rw[<-d1];exact o2.next
 have c2:p≠a6:=by have:=aA.lt_of_get p0;omega
 have dr6b69:r6≠a6:=by have:=aA.lt_of_get p1;omega
 have q1:=p9.new d1 g3
 have s1:=g3.old p0
 have s2:=g3.old p1
 have m6:a4.log= []:=by rw[<-e0];exact m5
 have o3:=o2.trans g3
 obtain⟨a1,t8,l0,d7,o4,l6,m8⟩:=bH (o:=0) (v:=(.agg ⟨[i64 (aC k N),i64 (aC (aF k 13) N),i64 (aC (aF k 170) 5),i64 (aC (aF k 900) 9)]⟩)) (new:= [i64 (aC k N),i64 (aC (aF k 13) N),i64 (aC (aF k 170) 5),i64 (aC (aF k 900) 9)]) o3 f8 l5 lS s0 rfl rfl (Nat.zero_le _) (Nat.le_of_ble_eq_true rfl) rfl
 replace l0:a1.get a6=some ⟨[i64 (aC k N),i64 (aC (aF k 13) N),i64 (aC (aF k 170) 5),i64 (aC (aF k 900) 9)],37,4,0,true⟩:=l0
 have q2:=q1.keep (by simp) (fun id h _=>d7 id h)
 have s3:=(d7 _ c2).trans s1
 have s4:=(d7 _ dr6b69).trans s2
 have m7:a1.log= [a6]:=by rw[m8,m6]
 obtain⟨c9,a7⟩: ∃m:aA,m=(aA.mk a1.blks a1.next a1.hide (a1.log++M.log)):=⟨_,rfl⟩
 have r2:Ext M0 c9:=by rw[a7];exact Ext.join (X0) (o4)
 have l7:aB c9:=by rw[a7];exact l6
 have s5:c9.get p=some ⟨[i64 N,S],26,2,0,true⟩:=by rw[a7];exact s3
 have s6:c9.get r6=some ⟨[i64 0,cI],26,2,0,true⟩:=by rw[a7];exact s4
 have s7:c9.get a6=some ⟨[i64 (aC k N),i64 (aC (aF k 13) N),i64 (aC (aF k 170) 5),i64 (aC (aF k 900) 9)],37,4,0,true⟩:=by rw[a7];exact l0
 have g4:=q2.same (M':=c9) (fun id b h=>by rw[a7];exact h)
 obtain⟨n6,q8,c5,m9,l8,i9,b0,e9,h6⟩:=aH (x:=(md,3)) l7 cW (⟨⟨_,_,rfl,rfl,rfl⟩,rfl⟩)
 have g5:=g4.ext b0
 have j6:=b0.old s5
 have j7:=b0.old s6
 have j8:=b0.old s7
 have e1:n6=(i64 (aC md 3)):=h6
 subst e1
 have i0:=r2.trans b0
 obtain⟨n7,q9,b5,n0,l9,j0,b1,f0,h7⟩:=aH (x:=(md,3)) e9 cW (⟨⟨_,_,rfl,rfl,rfl⟩,rfl⟩)
 have g8:=g5.ext b1
 have j9:=b1.old j6
 have k0:=b1.old j7
 have d2:=b1.old j8
 have e2:n7=(i64 (aC md 3)):=h7
 subst e2
 have i1:=i0.trans b1
 obtain⟨n8,r0,c6,n1,m0,j1,b2,f1,h8⟩:=aH (x:=((IntKind.wrap .i64 ((aC (aF k 170) 5)*(aC k N))),3)) f0 cW (⟨⟨_,_,rfl,rfl,rfl⟩,rfl⟩)
 have g9:=g8.ext b2
 have k1:=b2.old j9
 have k2:=b2.old k0
 have k3:=b2.old d2
 have e3:n8=(i64 (aC (IntKind.wrap .i64 ((aC (aF k 170) 5)*(aC k N))) 3)):=h8
 subst e3
 have i2:=i1.trans b2
 obtain⟨c0,n3,d3,b9,i3,f2,p4⟩:=bH (o:=2) (v:=(i64 (aC (IntKind.wrap .i64 ((aC (aF k 170) 5)*(aC k N))) 3))) (new:= [i64 (aC k N),i64 (aC (aF k 13) N),i64 (aC (IntKind.wrap .i64 ((aC (aF k 170) 5)*(aC k N))) 3),i64 (aC (aF k 900) 9)]) i2 f8 f1 He k3 rfl rfl (Nat.zero_le _) (Nat.le_of_ble_eq_true rfl) rfl
 replace d3:c0.get a6=some ⟨[i64 (aC k N),i64 (aC (aF k 13) N),i64 (aC (IntKind.wrap .i64 ((aC (aF k 170) 5)*(aC k N))) 3),i64 (aC (aF k 900) 9)],37,4,0,true⟩:=d3
 have h0:=g9.keep (by simp) (fun id h _=>b9 id h)
 have k4:=(b9 _ c2).trans k1
 have k5:=(b9 _ dr6b69).trans k2
 obtain⟨n9,r1,b6,n2,m1,j2,b3,f3,h9⟩:=aH (x:=(k,31)) f2 cW (⟨⟨_,_,rfl,rfl,rfl⟩,rfl⟩)
 have h3:=h0.ext b3
 have d4:=b3.old k4
 have e5:=b3.old k5
 have d5:=b3.old d3
 have e4:n9=(i64 (aC k 31)):=h9
 subst e4
 have d8:=i3.trans b3
 obtain⟨a5,c7,b8,d9,e6,b4,f5⟩:=bG f3 ⟨[i64 (aC k N),i64 (aC (aF k 13) N),i64 (aC (IntKind.wrap .i64 ((aC (aF k 170) 5)*(aC k N))) 3),i64 (aC (aF k 900) 9)],37,4,0,true⟩
 have p3:M0.next<=a5:=by rw[<-b8];exact d8.next
 have i8:p≠a5:=by have:=aA.lt_of_get d4;omega
 have dr6b171:r6≠a5:=by have:=aA.lt_of_get e5;omega
 have db69b171:a6≠a5:=by have:=aA.lt_of_get d5;omega
 have h4:=h3.new b8 b4
 have e7:=b4.old d4
 have e8:=b4.old e5
 have k6:=b4.old d5
 have i4:=d8.trans b4
 obtain⟨c1,S185,c8,n4,i5,f6,a9,c3,p2⟩:=iE (P:=Try.prog) (sT:=24) (xT:=24) (y:=32) (c:=2) h4 i4 f5 (by intro x hx;simp only [List.mem_cons,List.not_mem_nil,or_false] at hx;rcases hx with rfl|rfl|rfl|rfl<;>first|exact aA.lt_of_get e6|exact aA.lt_of_get k6|exact aA.lt_of_get e7|exact aA.lt_of_get e8) (by kernel_rfl) (by kernel_rfl) (by kernel_rfl) (by kernel_rfl) (by decide) (by decide) rfl hl30 e6 (o:=0) (new:= [i64 (aC k N),i64 (aC (aF k 13) N),i64 (aC (IntKind.wrap .i64 ((aC (aF k 170) 5)*(aC k N))) 3),i64 (aC (aF k 900) 9)]) rfl rfl rfl
 have k7:=c3 _ _ e7 (by simp)
 have k8:=c3 _ _ e8 (by simp)
 obtain⟨b7,n5,d6,c4,i6,f7,p5⟩:=bH (o:=1) (v:=S185) (new:= [i64 N,S185]) i5 np f6 Nj k7 (by rw[cC a9.isCell];rfl) (by rw[cC a9.isCell];show(isCell _&&true)=true;rw[a9.isCell];rfl) (Nat.zero_le _) (Nat.le_of_ble_eq_true rfl) (by rw[cC a9.isCell];rfl)
 replace d6:b7.get p=some ⟨[i64 N,S185],26,2,0,true⟩:=d6
 have h5:=a9.keep (by simp) (fun id h _=>c4 id h)
 have k9:=(c4 _ (Ne.symm dpr6)).trans k8
 have hraw:oR Try.prog [] 100 Try.f10 (q10.loopAt 0) [(1,(aD bb o m c)),(2,(i64 md)),(6,(pt r6 0)),(7,(pt p 0)),(8,(i64 (i:Int)))] M [aM 10,aM 12,aM 15,aM 16,aM 22,aU 24 (i64 k),aU 32 (i64 N),bL 34 (i64 (aC k N)) a0,aU 42 (i64 N),bL 44 (i64 (aC (aF k 13) N)) a2,bL 50 (i64 (aC (aF k 170) 5)) a3,bL 56 (i64 (aC (aF k 900) 9)) a8,bL 60 (pt a6 0) (aA.mk a4.blks a4.next (aS 0 [⟨14,1,a3.next,a8.next⟩,⟨11,1,a2.next,a3.next⟩,⟨8,1,a0.next,a2.next⟩,⟨3,1,M.next,a0.next⟩,⟨2,1,M.next,M.next⟩]++M.hide) a4.log),lP 62 a1,bL 66 (i64 (aC md 3)) c5,aO 69,bL 73 (i64 (aC md 3)) b5,aM 76,aU 80 (i64 (aC (aF k 170) 5)),aU 84 (i64 (aC k N)),bL 88 (i64 (aC (IntKind.wrap .i64 ((aC (aF k 170) 5)*(aC k N))) 3)) c6,lP 92 c0,bL 96 (i64 (aC k 31)) b6,aO 99,aU 103 S,aU 105 (.agg ⟨[i64 (aC k N),i64 (aC (aF k 13) N),i64 (aC (IntKind.wrap .i64 ((aC (aF k 170) 5)*(aC k N))) 3),i64 (aC (aF k 900) 9)]⟩),bL 107 (aD a5 0 1 2) c7,.at 109 ((bif c1 then 1 else 2),.val S185,c8),lP 113 b7] [1,2,6,7,8]=some (.normal,[some (aD bb o m c),some (i64 md),some (pt r6 0),some (pt p 0),some (i64 (IntKind.wrap .i64 ((i:Int)+(1:Int))))],b7,[qT (decide ((i:Int)<(m:Int))),qT (decide ((i:Int)<(m:Int))),qT (decide ((i:Int)<(m:Int))),qT (decide ((i:Int)<(40:Int))),.q (.inb (i:Int) m) (fM true),qL 3 bb (o+((i:Int):Int).toNat*1) M (i64 k),qL 3 p 0 (aA.mk M.blks M.next M.hide []) (i64 N),qC 19 [i64 k,i64 N] (aA.mk M.blks M.next M.hide []) (i64 (aC k N)) a0,qL 3 p 0 (aA.mk a0.blks a0.next (aS 64 [⟨3,1,M.next,a0.next⟩,⟨2,1,M.next,M.next⟩]++M.hide) a0.log) (i64 N),qT (Nat.blt p M.next),qC 19 [i64 (aF k 13),i64 N] (aA.mk a0.blks a0.next M.hide a0.log) (i64 (aC (aF k 13) N)) a2,qC 19 [i64 (aF k 170),i64 5] (aA.mk a2.blks a2.next M.hide a2.log) (i64 (aC (aF k 170) 5)) a3,qC 19 [i64 (aF k 900),i64 9] (aA.mk a3.blks a3.next M.hide a3.log) (i64 (aC (aF k 900) 9)) a8,.eq (dL Try.prog 37 (aA.mk a8.blks a8.next (aS 0 [⟨14,1,a3.next,a8.next⟩,⟨11,1,a2.next,a3.next⟩,⟨8,1,a0.next,a2.next⟩,⟨3,1,M.next,a0.next⟩,⟨2,1,M.next,M.next⟩]++M.hide) a8.log)) (1,.val (pt a6 0),(aA.mk a4.blks a4.next (aS 0 [⟨14,1,a3.next,a8.next⟩,⟨11,1,a2.next,a3.next⟩,⟨8,1,a0.next,a2.next⟩,⟨3,1,M.next,a0.next⟩,⟨2,1,M.next,M.next⟩]++M.hide) a4.log)),qS 37 a6 0 (.agg ⟨[i64 (aC k N),i64 (aC (aF k 13) N),i64 (aC (aF k 170) 5),i64 (aC (aF k 900) 9)]⟩) (aA.mk (aA.mk a4.blks a4.next (aS 0 [⟨14,1,a3.next,a8.next⟩,⟨11,1,a2.next,a3.next⟩,⟨8,1,a0.next,a2.next⟩,⟨3,1,M.next,a0.next⟩,⟨2,1,M.next,M.next⟩]++M.hide) a4.log).blks (aA.mk a4.blks a4.next (aS 0 [⟨14,1,a3.next,a8.next⟩,⟨11,1,a2.next,a3.next⟩,⟨8,1,a0.next,a2.next⟩,⟨3,1,M.next,a0.next⟩,⟨2,1,M.next,M.next⟩]++M.hide) a4.log).next M.hide (aA.mk a4.blks a4.next (aS 0 [⟨14,1,a3.next,a8.next⟩,⟨11,1,a2.next,a3.next⟩,⟨8,1,a0.next,a2.next⟩,⟨3,1,M.next,a0.next⟩,⟨2,1,M.next,M.next⟩]++M.hide) a4.log).log) a1,qT (cQ [p] a1.log),qC 19 [i64 md,i64 3] (aA.mk a1.blks a1.next M.hide (a1.log++M.log)) (i64 (aC md 3)) c5,qF ((aC md 3)==(0:Int)),qC 19 [i64 md,i64 3] c5 (i64 (aC md 3)) b5,qT ((aC md 3)==(1:Int)),qL 3 a6 2 b5 (i64 (aC (aF k 170) 5)),qL 3 a6 0 b5 (i64 (aC k N)),qC 19 [i64 (IntKind.wrap .i64 ((aC (aF k 170) 5)*(aC k N))),i64 3] b5 (i64 (aC (IntKind.wrap .i64 ((aC (aF k 170) 5)*(aC k N))) 3)) c6,qS 3 a6 2 (i64 (aC (IntKind.wrap .i64 ((aC (aF k 170) 5)*(aC k N))) 3)) c6 c0,qC 19 [i64 k,i64 31] c0 (i64 (aC k 31)) b6,qF ((aC k 31)==(0:Int)),qL 24 p 1 b6 S,qL 37 a6 0 b6 (.agg ⟨[i64 (aC k N),i64 (aC (aF k 13) N),i64 (aC (IntKind.wrap .i64 ((aC (aF k 170) 5)*(aC k N))) 3),i64 (aC (aF k 900) 9)]⟩),.eq (bE Try.prog 24 1 [(0,(.agg ⟨[i64 (aC k N),i64 (aC (aF k 13) N),i64 (aC (IntKind.wrap .i64 ((aC (aF k 170) 5)*(aC k N))) 3),i64 (aC (aF k 900) 9)]⟩))] b6) (1,.val (aD a5 0 1 2),c7),.q (.append [24,24] S (aD a5 0 1 2) c7) ((bif c1 then 1 else 2),.val S185,c8),qS 24 p 1 S185 c8 b7]):=by cases c1<;>kernel_rfl
 dsimp only at hraw
 have t9:aA.mk M.blks M.next M.hide []=R1:=d0.symm
 have u0:aA.mk a0.blks a0.next M.hide a0.log=a0:=by rw[(show M.hide=a0.hide from((X0).hide.trans (i7).hide.symm))]
 have u1:aA.mk a0.blks a0.next (aS 64 [⟨3,1,M.next,a0.next⟩,⟨2,1,M.next,M.next⟩]++M.hide) a0.log=bP (aS 64 [⟨3,1,M.next,a0.next⟩,⟨2,1,M.next,M.next⟩]) a0:=by rw[(show M.hide=a0.hide from((X0).hide.trans (i7).hide.symm))];rfl
 have u2:aA.mk a2.blks a2.next M.hide a2.log=a2:=by rw[(show M.hide=a2.hide from((X0).hide.trans (o0).hide.symm))]
 have u3:aA.mk a3.blks a3.next M.hide a3.log=a3:=by rw[(show M.hide=a3.hide from((X0).hide.trans (o1).hide.symm))]
 have u4:aA.mk a4.blks a4.next M.hide a4.log=a4:=by rw[(show M.hide=a4.hide from((X0).hide.trans (o3).hide.symm))]
 have u5:(aA.mk a1.blks a1.next M.hide (a1.log++M.log))=(aA.mk a1.blks a1.next a1.hide (a1.log++M.log)):=by rw[(show M.hide=a1.hide from((X0).hide.trans (o4).hide.symm))]
 have u6:(aA.mk a1.blks a1.next a1.hide (a1.log++M.log))=c9:=a7.symm
 try rw[t9] at hraw
 try rw[u0] at hraw
 try rw[u1] at hraw
 try rw[u2] at hraw
 try rw[u3] at hraw
 try rw[u4] at hraw
 try rw[u5] at hraw
 try rw[u6] at hraw
 obtain⟨T1,h1,h2⟩:=Rd.told aJ aI (fun B=>lO (gF 19 Tv (gQ _))) (fun _ _=>rfl) hraw (hk (bT cc0) (hk (bT cc0) (hk (bT cc0) (hk (bT cc1) (hk (eW (by omega) (by simp at cc0;omega)) (hk (iP (aE X0 hld0)) (hk (lC cO g6 rfl) (hk (aN rfl t4 s9 o5) (hk (lC cO (bS.2 ⟨cY (by simp;omega),o9⟩) rfl) (hk (mE ltpM) (hk (aN rfl t5 t0 o6) (hk (aN rfl t6 t1 o7) (hk (aN rfl t7 t2 o8) (hk (bZ (by rw[<-d1,<-e0];kernel_rfl) Nat.one_ne_zero) (hk (eF t8) (hk (dZ (by rw[m7];simp<;>omega)) (hk (aN rfl m9 l8 i9) (hk (bF cc2) (hk (aN rfl n0 l9 j0) (hk (bT cc3) (hk (lC cO d2 rfl) (hk (lC cO d2 rfl) (hk (aN rfl n1 m0 j1) (hk (eF n3) (hk (aN rfl n2 m1 j2) (hk (bF cc4) (hk (lC cP d4 rfl) (hk (lA ⟨tM,lS⟩ d5 rfl) (hk (bZ (by rw[<-b8,<-d9];kernel_rfl) Nat.one_ne_zero) (hk (jD n4 (by cases c1<;>simp)) (hk (eF n5) hn)))))))))))))))))))))))))))))))
 exact⟨T1,b7,S185,h1,h2,i6,f7,d6,k9,h5.less (by intro x hx;simp only [List.mem_cons,List.not_mem_nil,or_false] at hx;rcases hx with rfl|rfl<;>simp)⟩
theorem r92z(p r6 bb o m c i:Nat)(N md k:Int)(S:Value)(l:List E4){M M0:aA}(hM:aB M)(X0:Ext M0 M)(np:M0.next<=p)(gp:M.get p=some ⟨[i64 N,S],26,2,0,true⟩)(gr6h:M.get r6=some ⟨[i64 0,cI],26,2,0,true⟩)(dpr6:p≠r6)(hN62:(decide (0<N)&&decide (N<2^62))=true)(hA:cU 37 4 M0 [p,r6] l.length ((l.map kL).flatten) S M)(hl30:l.length<1073741824)(cc0:(decide ((i:Int)<(m:Int)))=true)(cc1:(decide ((i:Int)<(40:Int)))=true)(cc2:((aC md 3)==(0:Int))=false)(cc3:((aC md 3)==(1:Int))=false)(cc4:((aC k 31)==(0:Int))=true)(hld0:aX Try.prog 3 ⟨bb,o+((i:Int):Int).toNat*1,none⟩ M0=some (i64 k)): ∃T1 M' S185,Rd Try.prog [] (q10.loopAt 0) Try.f10.ntmps (fr [(1,(aD bb o m c)),(2,(i64 md)),(6,(pt r6 0)),(7,(pt p 0)),(8,(i64 (i:Int)))]) M .normal T1 M'/\ [1,2,6,7,8].map T1.get= [some (aD bb o m c),some (i64 md),some (pt r6 0),some (pt p 0),some (i64 (IntKind.wrap .i64 ((i:Int)+(1:Int))))]/\Ext M0 M'/\aB M'/\M'.get p=some ⟨[i64 N,S185],26,2,0,true⟩/\M'.get r6=some ⟨[i64 0,cI],26,2,0,true⟩/\cU 37 4 M0 [p,r6] (l.length+1) ((l.map kL).flatten++ [i64 (aC k N),i64 (aC (aF k 13) N),i64 (aC (aF k 170) 5),i64 (IntKind.wrap .i64 ((2147483647:Int)-(aC (aF k 31) 3)))]) S185 M':=by
 obtain⟨R1,d1⟩: ∃m:aA,m=aA.mk M.blks M.next M.hide []:=⟨_,rfl⟩
 have X3:Ext (aA.mk M0.blks M0.next M0.hide []) R1:=by rw[d1];exact Ext.aside (X0)
 have t3:R1.log= []:=by rw[d1]
 have s8:aB R1:=by rw[d1];exact aB.log hM
 have ltpM:p<M.next:=by have h:=aA.lt_of_get gp;exact h
 have g6:R1.get p=some ⟨[i64 N,S],26,2,0,true⟩:=by rw[d1];exact gp
 have ltr6M:r6<M.next:=by have h:=aA.lt_of_get gr6h;exact h
 have g7:R1.get r6=some ⟨[i64 0,cI],26,2,0,true⟩:=by rw[d1];exact gr6h
 have A8:=hA.same (M':=R1) (fun id b h=>by rw[d1];exact h)
 obtain⟨w9,v1,a0,t4,s9,o5,f7,l1,q3⟩:=aH (x:=(k,N)) s8 cW (⟨⟨_,_,rfl,rfl,rfl⟩,hN62⟩)
 have p6:=A8.ext f7
 have o9:=f7.old g6
 have r4:=f7.old g7
 have r3:w9=(i64 (aC k N)):=q3
 subst r3
 have m2:a0.log= []:=by rw[<-o5];exact t3
 have i5:=X3.trans f7
 obtain⟨w24,v2,a2,t5,t0,o6,f8,l2,q5⟩:=aH (x:=((aF k 13),N)) l1 cW (⟨⟨_,_,rfl,rfl,rfl⟩,hN62⟩)
 have p7:=p6.ext f8
 have r5:=f8.old o9
 have r7:=f8.old r4
 have j1:w24=(i64 (aC (aF k 13) N)):=q5
 subst j1
 have m3:a2.log= []:=by rw[<-o6];exact m2
 have o0:=i5.trans f8
 obtain⟨u7,v3,a3,t6,t1,o7,f9,l3,q6⟩:=aH (x:=((aF k 170),5)) l2 cW (⟨⟨_,_,rfl,rfl,rfl⟩,rfl⟩)
 have p8:=p7.ext f9
 have r8:=f9.old r5
 have r9:=f9.old r7
 have j2:u7=(i64 (aC (aF k 170) 5)):=q6
 subst j2
 have m4:a3.log= []:=by rw[<-o7];exact m3
 have o1:=o0.trans f9
 obtain⟨u9,v4,a9,t7,t2,o8,g0,l4,q7⟩:=aH (x:=((aF k 900),9)) l3 cW (⟨⟨_,_,rfl,rfl,rfl⟩,rfl⟩)
 have p9:=p8.ext g0
 have p0:=g0.old r8
 have p1:=g0.old r9
 have j3:u9=(i64 (aC (aF k 900) 9)):=q7
 subst j3
 have m5:a9.log= []:=by rw[<-o8];exact m4
 have o2:=o1.trans g0
 obtain⟨a8,a4,d2,d8,s0,g1,l5⟩:=bG l4 ⟨[i64 0,i64 0,i64 0,i64 0],37,4,0,true⟩
 have f6:M0.next<=a8:=by rw[<-d2];exact o2.next
 have c1:p≠a8:=by have:=aA.lt_of_get p0;omega
 have dr6b69:r6≠a8:=by have:=aA.lt_of_get p1;omega
 have q1:=p9.new d2 g1
 have s1:=g1.old p0
 have s2:=g1.old p1
 have m6:a4.log= []:=by rw[<-d8];exact m5
 have o3:=o2.trans g1
 obtain⟨a1,t8,l0,d5,o4,l6,m8⟩:=bH (o:=0) (v:=(.agg ⟨[i64 (aC k N),i64 (aC (aF k 13) N),i64 (aC (aF k 170) 5),i64 (aC (aF k 900) 9)]⟩)) (new:= [i64 (aC k N),i64 (aC (aF k 13) N),i64 (aC (aF k 170) 5),i64 (aC (aF k 900) 9)]) o3 f6 l5 lS s0 rfl rfl (Nat.zero_le _) (Nat.le_of_ble_eq_true rfl) rfl
 replace l0:a1.get a8=some ⟨[i64 (aC k N),i64 (aC (aF k 13) N),i64 (aC (aF k 170) 5),i64 (aC (aF k 900) 9)],37,4,0,true⟩:=l0
 have q2:=q1.keep (by simp) (fun id h _=>d5 id h)
 have s3:=(d5 _ c1).trans s1
 have s4:=(d5 _ dr6b69).trans s2
 have m7:a1.log= [a8]:=by rw[m8,m6]
 obtain⟨d0,a6⟩: ∃m:aA,m=(aA.mk a1.blks a1.next a1.hide (a1.log++M.log)):=⟨_,rfl⟩
 have r2:Ext M0 d0:=by rw[a6];exact Ext.join (X0) (o4)
 have l7:aB d0:=by rw[a6];exact l6
 have s5:d0.get p=some ⟨[i64 N,S],26,2,0,true⟩:=by rw[a6];exact s3
 have s6:d0.get r6=some ⟨[i64 0,cI],26,2,0,true⟩:=by rw[a6];exact s4
 have s7:d0.get a8=some ⟨[i64 (aC k N),i64 (aC (aF k 13) N),i64 (aC (aF k 170) 5),i64 (aC (aF k 900) 9)],37,4,0,true⟩:=by rw[a6];exact l0
 have g2:=q2.same (M':=d0) (fun id b h=>by rw[a6];exact h)
 obtain⟨n6,q8,c4,m9,l8,i7,b1,e7,h4⟩:=aH (x:=(md,3)) l7 cW (⟨⟨_,_,rfl,rfl,rfl⟩,rfl⟩)
 have g3:=g2.ext b1
 have j4:=b1.old s5
 have j5:=b1.old s6
 have j6:=b1.old s7
 have d9:n6=(i64 (aC md 3)):=h4
 subst d9
 have h8:=r2.trans b1
 obtain⟨n7,q9,c5,n0,l9,i8,b2,e8,h5⟩:=aH (x:=(md,3)) e7 cW (⟨⟨_,_,rfl,rfl,rfl⟩,rfl⟩)
 have g4:=g3.ext b2
 have j7:=b2.old j4
 have j8:=b2.old j5
 have j9:=b2.old j6
 have e0:n7=(i64 (aC md 3)):=h5
 subst e0
 have h9:=h8.trans b2
 obtain⟨n8,r0,c6,n1,m0,i9,b3,e9,h6⟩:=aH (x:=(k,31)) e8 cW (⟨⟨_,_,rfl,rfl,rfl⟩,rfl⟩)
 have g5:=g4.ext b3
 have k0:=b3.old j7
 have k1:=b3.old j8
 have k2:=b3.old j9
 have e1:n8=(i64 (aC k 31)):=h6
 subst e1
 have i0:=h9.trans b3
 obtain⟨n9,r1,c7,n2,m1,j0,b4,f0,h7⟩:=aH (x:=((aF k 31),3)) e9 cW (⟨⟨_,_,rfl,rfl,rfl⟩,rfl⟩)
 have g8:=g5.ext b4
 have k3:=b4.old k0
 have k4:=b4.old k1
 have k5:=b4.old k2
 have e2:n9=(i64 (aC (aF k 31) 3)):=h7
 subst e2
 have i1:=i0.trans b4
 obtain⟨a7,n3,b8,b9,d6,f1,p4⟩:=bH (o:=3) (v:=(i64 (IntKind.wrap .i64 ((2147483647:Int)-(aC (aF k 31) 3))))) (new:= [i64 (aC k N),i64 (aC (aF k 13) N),i64 (aC (aF k 170) 5),i64 (IntKind.wrap .i64 ((2147483647:Int)-(aC (aF k 31) 3)))]) i1 f6 f0 He k5 rfl rfl (Nat.zero_le _) (Nat.le_of_ble_eq_true rfl) rfl
 replace b8:a7.get a8=some ⟨[i64 (aC k N),i64 (aC (aF k 13) N),i64 (aC (aF k 170) 5),i64 (IntKind.wrap .i64 ((2147483647:Int)-(aC (aF k 31) 3)))],37,4,0,true⟩:=b8
 have g9:=g8.keep (by simp) (fun id h _=>b9 id h)
 have d3:=(b9 _ c1).trans k3
 have e3:=(b9 _ dr6b69).trans k4
 obtain⟨a5,c8,b7,d7,e4,b5,f2⟩:=bG f1 ⟨[i64 (aC k N),i64 (aC (aF k 13) N),i64 (aC (aF k 170) 5),i64 (IntKind.wrap .i64 ((2147483647:Int)-(aC (aF k 31) 3)))],37,4,0,true⟩
 have p3:M0.next<=a5:=by rw[<-b7];exact d6.next
 have i6:p≠a5:=by have:=aA.lt_of_get d3;omega
 have dr6b171:r6≠a5:=by have:=aA.lt_of_get e3;omega
 have db69b171:a8≠a5:=by have:=aA.lt_of_get b8;omega
 have h0:=g9.new b7 b5
 have e5:=b5.old d3
 have e6:=b5.old e3
 have k6:=b5.old b8
 have i2:=d6.trans b5
 obtain⟨c0,S185,c9,n4,i3,f3,b0,c2,p2⟩:=iE (P:=Try.prog) (sT:=24) (xT:=24) (y:=32) (c:=2) h0 i2 f2 (by intro x hx;simp only [List.mem_cons,List.not_mem_nil,or_false] at hx;rcases hx with rfl|rfl|rfl|rfl<;>first|exact aA.lt_of_get e4|exact aA.lt_of_get k6|exact aA.lt_of_get e5|exact aA.lt_of_get e6) (by kernel_rfl) (by kernel_rfl) (by kernel_rfl) (by kernel_rfl) (by decide) (by decide) rfl hl30 e4 (o:=0) (new:= [i64 (aC k N),i64 (aC (aF k 13) N),i64 (aC (aF k 170) 5),i64 (IntKind.wrap .i64 ((2147483647:Int)-(aC (aF k 31) 3)))]) rfl rfl rfl
 have k7:=c2 _ _ e5 (by simp)
 have k8:=c2 _ _ e6 (by simp)
 obtain⟨b6,n5,d4,c3,i4,f5,p5⟩:=bH (o:=1) (v:=S185) (new:= [i64 N,S185]) i3 np f3 Nj k7 (by rw[cC b0.isCell];rfl) (by rw[cC b0.isCell];show(isCell _&&true)=true;rw[b0.isCell];rfl) (Nat.zero_le _) (Nat.le_of_ble_eq_true rfl) (by rw[cC b0.isCell];rfl)
 replace d4:b6.get p=some ⟨[i64 N,S185],26,2,0,true⟩:=d4
 have h3:=b0.keep (by simp) (fun id h _=>c3 id h)
 have k9:=(c3 _ (Ne.symm dpr6)).trans k8
 have hraw:oR Try.prog [] 100 Try.f10 (q10.loopAt 0) [(1,(aD bb o m c)),(2,(i64 md)),(6,(pt r6 0)),(7,(pt p 0)),(8,(i64 (i:Int)))] M [aM 10,aM 12,aM 15,aM 16,aM 22,aU 24 (i64 k),aU 32 (i64 N),bL 34 (i64 (aC k N)) a0,aU 42 (i64 N),bL 44 (i64 (aC (aF k 13) N)) a2,bL 50 (i64 (aC (aF k 170) 5)) a3,bL 56 (i64 (aC (aF k 900) 9)) a9,bL 60 (pt a8 0) (aA.mk a4.blks a4.next (aS 0 [⟨14,1,a3.next,a9.next⟩,⟨11,1,a2.next,a3.next⟩,⟨8,1,a0.next,a2.next⟩,⟨3,1,M.next,a0.next⟩,⟨2,1,M.next,M.next⟩]++M.hide) a4.log),lP 62 a1,bL 66 (i64 (aC md 3)) c4,aO 69,bL 73 (i64 (aC md 3)) c5,aO 76,bL 80 (i64 (aC k 31)) c6,aM 83,bL 89 (i64 (aC (aF k 31) 3)) c7,lP 95 a7,aU 99 S,aU 101 (.agg ⟨[i64 (aC k N),i64 (aC (aF k 13) N),i64 (aC (aF k 170) 5),i64 (IntKind.wrap .i64 ((2147483647:Int)-(aC (aF k 31) 3)))]⟩),bL 103 (aD a5 0 1 2) c8,.at 105 ((bif c0 then 1 else 2),.val S185,c9),lP 109 b6] [1,2,6,7,8]=some (.normal,[some (aD bb o m c),some (i64 md),some (pt r6 0),some (pt p 0),some (i64 (IntKind.wrap .i64 ((i:Int)+(1:Int))))],b6,[qT (decide ((i:Int)<(m:Int))),qT (decide ((i:Int)<(m:Int))),qT (decide ((i:Int)<(m:Int))),qT (decide ((i:Int)<(40:Int))),.q (.inb (i:Int) m) (fM true),qL 3 bb (o+((i:Int):Int).toNat*1) M (i64 k),qL 3 p 0 (aA.mk M.blks M.next M.hide []) (i64 N),qC 19 [i64 k,i64 N] (aA.mk M.blks M.next M.hide []) (i64 (aC k N)) a0,qL 3 p 0 (aA.mk a0.blks a0.next (aS 64 [⟨3,1,M.next,a0.next⟩,⟨2,1,M.next,M.next⟩]++M.hide) a0.log) (i64 N),qT (Nat.blt p M.next),qC 19 [i64 (aF k 13),i64 N] (aA.mk a0.blks a0.next M.hide a0.log) (i64 (aC (aF k 13) N)) a2,qC 19 [i64 (aF k 170),i64 5] (aA.mk a2.blks a2.next M.hide a2.log) (i64 (aC (aF k 170) 5)) a3,qC 19 [i64 (aF k 900),i64 9] (aA.mk a3.blks a3.next M.hide a3.log) (i64 (aC (aF k 900) 9)) a9,.eq (dL Try.prog 37 (aA.mk a9.blks a9.next (aS 0 [⟨14,1,a3.next,a9.next⟩,⟨11,1,a2.next,a3.next⟩,⟨8,1,a0.next,a2.next⟩,⟨3,1,M.next,a0.next⟩,⟨2,1,M.next,M.next⟩]++M.hide) a9.log)) (1,.val (pt a8 0),(aA.mk a4.blks a4.next (aS 0 [⟨14,1,a3.next,a9.next⟩,⟨11,1,a2.next,a3.next⟩,⟨8,1,a0.next,a2.next⟩,⟨3,1,M.next,a0.next⟩,⟨2,1,M.next,M.next⟩]++M.hide) a4.log)),qS 37 a8 0 (.agg ⟨[i64 (aC k N),i64 (aC (aF k 13) N),i64 (aC (aF k 170) 5),i64 (aC (aF k 900) 9)]⟩) (aA.mk (aA.mk a4.blks a4.next (aS 0 [⟨14,1,a3.next,a9.next⟩,⟨11,1,a2.next,a3.next⟩,⟨8,1,a0.next,a2.next⟩,⟨3,1,M.next,a0.next⟩,⟨2,1,M.next,M.next⟩]++M.hide) a4.log).blks (aA.mk a4.blks a4.next (aS 0 [⟨14,1,a3.next,a9.next⟩,⟨11,1,a2.next,a3.next⟩,⟨8,1,a0.next,a2.next⟩,⟨3,1,M.next,a0.next⟩,⟨2,1,M.next,M.next⟩]++M.hide) a4.log).next M.hide (aA.mk a4.blks a4.next (aS 0 [⟨14,1,a3.next,a9.next⟩,⟨11,1,a2.next,a3.next⟩,⟨8,1,a0.next,a2.next⟩,⟨3,1,M.next,a0.next⟩,⟨2,1,M.next,M.next⟩]++M.hide) a4.log).log) a1,qT (cQ [p] a1.log),qC 19 [i64 md,i64 3] (aA.mk a1.blks a1.next M.hide (a1.log++M.log)) (i64 (aC md 3)) c4,qF ((aC md 3)==(0:Int)),qC 19 [i64 md,i64 3] c4 (i64 (aC md 3)) c5,qF ((aC md 3)==(1:Int)),qC 19 [i64 k,i64 31] c5 (i64 (aC k 31)) c6,qT ((aC k 31)==(0:Int)),qC 19 [i64 (aF k 31),i64 3] c6 (i64 (aC (aF k 31) 3)) c7,qS 3 a8 3 (i64 (IntKind.wrap .i64 ((2147483647:Int)-(aC (aF k 31) 3)))) c7 a7,qL 24 p 1 a7 S,qL 37 a8 0 a7 (.agg ⟨[i64 (aC k N),i64 (aC (aF k 13) N),i64 (aC (aF k 170) 5),i64 (IntKind.wrap .i64 ((2147483647:Int)-(aC (aF k 31) 3)))]⟩),.eq (bE Try.prog 24 1 [(0,(.agg ⟨[i64 (aC k N),i64 (aC (aF k 13) N),i64 (aC (aF k 170) 5),i64 (IntKind.wrap .i64 ((2147483647:Int)-(aC (aF k 31) 3)))]⟩))] a7) (1,.val (aD a5 0 1 2),c8),.q (.append [24,24] S (aD a5 0 1 2) c8) ((bif c0 then 1 else 2),.val S185,c9),qS 24 p 1 S185 c9 b6]):=by cases c0<;>kernel_rfl
 dsimp only at hraw
 have t9:aA.mk M.blks M.next M.hide []=R1:=d1.symm
 have u0:aA.mk a0.blks a0.next M.hide a0.log=a0:=by rw[(show M.hide=a0.hide from((X0).hide.trans (i5).hide.symm))]
 have u1:aA.mk a0.blks a0.next (aS 64 [⟨3,1,M.next,a0.next⟩,⟨2,1,M.next,M.next⟩]++M.hide) a0.log=bP (aS 64 [⟨3,1,M.next,a0.next⟩,⟨2,1,M.next,M.next⟩]) a0:=by rw[(show M.hide=a0.hide from((X0).hide.trans (i5).hide.symm))];rfl
 have u2:aA.mk a2.blks a2.next M.hide a2.log=a2:=by rw[(show M.hide=a2.hide from((X0).hide.trans (o0).hide.symm))]
 have u3:aA.mk a3.blks a3.next M.hide a3.log=a3:=by rw[(show M.hide=a3.hide from((X0).hide.trans (o1).hide.symm))]
 have u4:aA.mk a4.blks a4.next M.hide a4.log=a4:=by rw[(show M.hide=a4.hide from((X0).hide.trans (o3).hide.symm))]
 have u5:(aA.mk a1.blks a1.next M.hide (a1.log++M.log))=(aA.mk a1.blks a1.next a1.hide (a1.log++M.log)):=by rw[(show M.hide=a1.hide from((X0).hide.trans (o4).hide.symm))]
 have u6:(aA.mk a1.blks a1.next a1.hide (a1.log++M.log))=d0:=a6.symm
 try rw[t9] at hraw
 try rw[u0] at hraw
 try rw[u1] at hraw
 try rw[u2] at hraw
 try rw[u3] at hraw
 try rw[u4] at hraw
 try rw[u5] at hraw
 try rw[u6] at hraw
 obtain⟨T1,h1,h2⟩:=Rd.told aJ aI (fun B=>lO (gF 19 Tv (gQ _))) (fun _ _=>rfl) hraw (hk (bT cc0) (hk (bT cc0) (hk (bT cc0) (hk (bT cc1) (hk (eW (by omega) (by simp at cc0;omega)) (hk (iP (aE X0 hld0)) (hk (lC cO g6 rfl) (hk (aN rfl t4 s9 o5) (hk (lC cO (bS.2 ⟨cY (by simp;omega),o9⟩) rfl) (hk (mE ltpM) (hk (aN rfl t5 t0 o6) (hk (aN rfl t6 t1 o7) (hk (aN rfl t7 t2 o8) (hk (bZ (by rw[<-d2,<-d8];kernel_rfl) Nat.one_ne_zero) (hk (eF t8) (hk (dZ (by rw[m7];simp<;>omega)) (hk (aN rfl m9 l8 i7) (hk (bF cc2) (hk (aN rfl n0 l9 i8) (hk (bF cc3) (hk (aN rfl n1 m0 i9) (hk (bT cc4) (hk (aN rfl n2 m1 j0) (hk (eF n3) (hk (lC cP d3 rfl) (hk (lA ⟨tM,lS⟩ b8 rfl) (hk (bZ (by rw[<-b7,<-d7];kernel_rfl) Nat.one_ne_zero) (hk (jD n4 (by cases c0<;>simp)) (hk (eF n5) hn)))))))))))))))))))))))))))))
 exact⟨T1,b6,S185,h1,h2,i4,f5,d4,k9,h3.less (by intro x hx;simp only [List.mem_cons,List.not_mem_nil,or_false] at hx;rcases hx with rfl|rfl<;>simp)⟩
theorem r92y(p r6 bb o m c i:Nat)(N md k:Int)(S:Value)(l:List E4){M M0:aA}(hM:aB M)(X0:Ext M0 M)(np:M0.next<=p)(gp:M.get p=some ⟨[i64 N,S],26,2,0,true⟩)(gr6h:M.get r6=some ⟨[i64 0,cI],26,2,0,true⟩)(dpr6:p≠r6)(hN62:(decide (0<N)&&decide (N<2^62))=true)(hA:cU 37 4 M0 [p,r6] l.length ((l.map kL).flatten) S M)(hl30:l.length<1073741824)(cc0:(decide ((i:Int)<(m:Int)))=true)(cc1:(decide ((i:Int)<(40:Int)))=true)(cc2:((aC md 3)==(0:Int))=false)(cc3:((aC md 3)==(1:Int))=false)(cc4:((aC k 31)==(0:Int))=false)(hld0:aX Try.prog 3 ⟨bb,o+((i:Int):Int).toNat*1,none⟩ M0=some (i64 k)): ∃T1 M' S160,Rd Try.prog [] (q10.loopAt 0) Try.f10.ntmps (fr [(1,(aD bb o m c)),(2,(i64 md)),(6,(pt r6 0)),(7,(pt p 0)),(8,(i64 (i:Int)))]) M .normal T1 M'/\ [1,2,6,7,8].map T1.get= [some (aD bb o m c),some (i64 md),some (pt r6 0),some (pt p 0),some (i64 (IntKind.wrap .i64 ((i:Int)+(1:Int))))]/\Ext M0 M'/\aB M'/\M'.get p=some ⟨[i64 N,S160],26,2,0,true⟩/\M'.get r6=some ⟨[i64 0,cI],26,2,0,true⟩/\cU 37 4 M0 [p,r6] (l.length+1) ((l.map kL).flatten++ [i64 (aC k N),i64 (aC (aF k 13) N),i64 (aC (aF k 170) 5),i64 (aC (aF k 900) 9)]) S160 M':=by
 obtain⟨R1,c5⟩: ∃m:aA,m=aA.mk M.blks M.next M.hide []:=⟨_,rfl⟩
 have X3:Ext (aA.mk M0.blks M0.next M0.hide []) R1:=by rw[c5];exact Ext.aside (X0)
 have q7:R1.log= []:=by rw[c5]
 have q1:aB R1:=by rw[c5];exact aB.log hM
 have ltpM:p<M.next:=by have h:=aA.lt_of_get gp;exact h
 have g6:R1.get p=some ⟨[i64 N,S],26,2,0,true⟩:=by rw[c5];exact gp
 have ltr6M:r6<M.next:=by have h:=aA.lt_of_get gr6h;exact h
 have g7:R1.get r6=some ⟨[i64 0,cI],26,2,0,true⟩:=by rw[c5];exact gr6h
 have A8:=hA.same (M':=R1) (fun id b h=>by rw[c5];exact h)
 obtain⟨w9,s4,a0,q8,q2,m2,e8,j1,n8⟩:=aH (x:=(k,N)) q1 cW (⟨⟨_,_,rfl,rfl,rfl⟩,hN62⟩)
 have n2:=A8.ext e8
 have m6:=e8.old g6
 have o7:=e8.old g7
 have o6:w9=(i64 (aC k N)):=n8
 subst o6
 have k1:a0.log= []:=by rw[<-m2];exact q7
 have h0:=X3.trans e8
 obtain⟨w24,s5,a2,q9,q3,m3,e9,j2,n9⟩:=aH (x:=((aF k 13),N)) j1 cW (⟨⟨_,_,rfl,rfl,rfl⟩,hN62⟩)
 have n3:=n2.ext e9
 have o8:=e9.old m6
 have o9:=e9.old o7
 have h7:w24=(i64 (aC (aF k 13) N)):=n9
 subst h7
 have k2:a2.log= []:=by rw[<-m3];exact k1
 have l7:=h0.trans e9
 obtain⟨s2,s6,a3,r0,q5,m4,f0,j3,o0⟩:=aH (x:=((aF k 170),5)) j2 cW (⟨⟨_,_,rfl,rfl,rfl⟩,rfl⟩)
 have n4:=n3.ext f0
 have p0:=f0.old o8
 have p1:=f0.old o9
 have h8:s2=(i64 (aC (aF k 170) 5)):=o0
 subst h8
 have k3:a3.log= []:=by rw[<-m4];exact k2
 have l8:=l7.trans f0
 obtain⟨s3,s7,a7,r1,q6,m5,f1,j4,o1⟩:=aH (x:=((aF k 900),9)) j3 cW (⟨⟨_,_,rfl,rfl,rfl⟩,rfl⟩)
 have n5:=n4.ext f1
 have m7:=f1.old p0
 have m8:=f1.old p1
 have h9:s3=(i64 (aC (aF k 900) 9)):=o1
 subst h9
 have k4:a7.log= []:=by rw[<-m5];exact k3
 have l9:=l8.trans f1
 obtain⟨b5,a4,c6,d4,p2,f2,j5⟩:=bG j4 ⟨[i64 0,i64 0,i64 0,i64 0],37,4,0,true⟩
 have k7:M0.next<=b5:=by rw[<-c6];exact l9.next
 have d2:p≠b5:=by have:=aA.lt_of_get m7;omega
 have dr6b69:r6≠b5:=by have:=aA.lt_of_get m8;omega
 have n6:=n5.new c6 f2
 have p3:=f2.old m7
 have p4:=f2.old m8
 have k5:a4.log= []:=by rw[<-d4];exact k4
 have m0:=l9.trans f2
 obtain⟨a1,r2,j0,d0,m1,j6,k8⟩:=bH (o:=0) (v:=(.agg ⟨[i64 (aC k N),i64 (aC (aF k 13) N),i64 (aC (aF k 170) 5),i64 (aC (aF k 900) 9)]⟩)) (new:= [i64 (aC k N),i64 (aC (aF k 13) N),i64 (aC (aF k 170) 5),i64 (aC (aF k 900) 9)]) m0 k7 j5 lS p2 rfl rfl (Nat.zero_le _) (Nat.le_of_ble_eq_true rfl) rfl
 replace j0:a1.get b5=some ⟨[i64 (aC k N),i64 (aC (aF k 13) N),i64 (aC (aF k 170) 5),i64 (aC (aF k 900) 9)],37,4,0,true⟩:=j0
 have n7:=n6.keep (by simp) (fun id h _=>d0 id h)
 have p5:=(d0 _ d2).trans p3
 have p6:=(d0 _ dr6b69).trans p4
 have k6:a1.log= [b5]:=by rw[k8,k5]
 obtain⟨c4,a6⟩: ∃m:aA,m=(aA.mk a1.blks a1.next a1.hide (a1.log++M.log)):=⟨_,rfl⟩
 have o5:Ext M0 c4:=by rw[a6];exact Ext.join (X0) (m1)
 have j7:aB c4:=by rw[a6];exact j6
 have p7:c4.get p=some ⟨[i64 N,S],26,2,0,true⟩:=by rw[a6];exact p5
 have p8:c4.get r6=some ⟨[i64 0,cI],26,2,0,true⟩:=by rw[a6];exact p6
 have p9:c4.get b5=some ⟨[i64 (aC k N),i64 (aC (aF k 13) N),i64 (aC (aF k 170) 5),i64 (aC (aF k 900) 9)],37,4,0,true⟩:=by rw[a6];exact j0
 have f3:=n7.same (M':=c4) (fun id b h=>by rw[a6];exact h)
 obtain⟨l4,o2,c0,k9,j8,h4,a9,e2,g0⟩:=aH (x:=(md,3)) j7 cW (⟨⟨_,_,rfl,rfl,rfl⟩,rfl⟩)
 have f5:=f3.ext a9
 have i0:=a9.old p7
 have i1:=a9.old p8
 have i2:=a9.old p9
 have d5:l4=(i64 (aC md 3)):=g0
 subst d5
 have g3:=o5.trans a9
 obtain⟨l5,o3,c1,l0,j9,h5,b0,e3,g1⟩:=aH (x:=(md,3)) e2 cW (⟨⟨_,_,rfl,rfl,rfl⟩,rfl⟩)
 have f6:=f5.ext b0
 have i3:=b0.old i0
 have i4:=b0.old i1
 have i5:=b0.old i2
 have d6:l5=(i64 (aC md 3)):=g1
 subst d6
 have g4:=g3.trans b0
 obtain⟨l6,o4,b3,l1,k0,h6,b1,e4,g2⟩:=aH (x:=(k,31)) e3 cW (⟨⟨_,_,rfl,rfl,rfl⟩,rfl⟩)
 have f7:=f6.ext b1
 have c7:=b1.old i3
 have d8:=b1.old i4
 have c8:=b1.old i5
 have d7:l6=(i64 (aC k 31)):=g2
 subst d7
 have d1:=g4.trans b1
 obtain⟨a5,c2,b6,d3,d9,b2,e5⟩:=bG e4 ⟨[i64 (aC k N),i64 (aC (aF k 13) N),i64 (aC (aF k 170) 5),i64 (aC (aF k 900) 9)],37,4,0,true⟩
 have n0:M0.next<=a5:=by rw[<-b6];exact d1.next
 have h3:p≠a5:=by have:=aA.lt_of_get c7;omega
 have dr6b146:r6≠a5:=by have:=aA.lt_of_get d8;omega
 have db69b146:b5≠a5:=by have:=aA.lt_of_get c8;omega
 have f8:=f7.new b6 b2
 have e0:=b2.old c7
 have e1:=b2.old d8
 have i6:=b2.old c8
 have g5:=d1.trans b2
 obtain⟨b7,S160,c3,l2,g8,e6,a8,b8,m9⟩:=iE (P:=Try.prog) (sT:=24) (xT:=24) (y:=32) (c:=2) f8 g5 e5 (by intro x hx;simp only [List.mem_cons,List.not_mem_nil,or_false] at hx;rcases hx with rfl|rfl|rfl|rfl<;>first|exact aA.lt_of_get d9|exact aA.lt_of_get i6|exact aA.lt_of_get e0|exact aA.lt_of_get e1) (by kernel_rfl) (by kernel_rfl) (by kernel_rfl) (by kernel_rfl) (by decide) (by decide) rfl hl30 d9 (o:=0) (new:= [i64 (aC k N),i64 (aC (aF k 13) N),i64 (aC (aF k 170) 5),i64 (aC (aF k 900) 9)]) rfl rfl rfl
 have i7:=b8 _ _ e0 (by simp)
 have i8:=b8 _ _ e1 (by simp)
 obtain⟨b4,l3,c9,b9,g9,e7,n1⟩:=bH (o:=1) (v:=S160) (new:= [i64 N,S160]) g8 np e6 Nj i7 (by rw[cC a8.isCell];rfl) (by rw[cC a8.isCell];show(isCell _&&true)=true;rw[a8.isCell];rfl) (Nat.zero_le _) (Nat.le_of_ble_eq_true rfl) (by rw[cC a8.isCell];rfl)
 replace c9:b4.get p=some ⟨[i64 N,S160],26,2,0,true⟩:=c9
 have f9:=a8.keep (by simp) (fun id h _=>b9 id h)
 have i9:=(b9 _ (Ne.symm dpr6)).trans i8
 have hraw:oR Try.prog [] 100 Try.f10 (q10.loopAt 0) [(1,(aD bb o m c)),(2,(i64 md)),(6,(pt r6 0)),(7,(pt p 0)),(8,(i64 (i:Int)))] M [aM 10,aM 12,aM 15,aM 16,aM 22,aU 24 (i64 k),aU 32 (i64 N),bL 34 (i64 (aC k N)) a0,aU 42 (i64 N),bL 44 (i64 (aC (aF k 13) N)) a2,bL 50 (i64 (aC (aF k 170) 5)) a3,bL 56 (i64 (aC (aF k 900) 9)) a7,bL 60 (pt b5 0) (aA.mk a4.blks a4.next (aS 0 [⟨14,1,a3.next,a7.next⟩,⟨11,1,a2.next,a3.next⟩,⟨8,1,a0.next,a2.next⟩,⟨3,1,M.next,a0.next⟩,⟨2,1,M.next,M.next⟩]++M.hide) a4.log),lP 62 a1,bL 66 (i64 (aC md 3)) c0,aO 69,bL 73 (i64 (aC md 3)) c1,aO 76,bL 80 (i64 (aC k 31)) b3,aO 83,aU 87 S,aU 89 (.agg ⟨[i64 (aC k N),i64 (aC (aF k 13) N),i64 (aC (aF k 170) 5),i64 (aC (aF k 900) 9)]⟩),bL 91 (aD a5 0 1 2) c2,.at 93 ((bif b7 then 1 else 2),.val S160,c3),lP 97 b4] [1,2,6,7,8]=some (.normal,[some (aD bb o m c),some (i64 md),some (pt r6 0),some (pt p 0),some (i64 (IntKind.wrap .i64 ((i:Int)+(1:Int))))],b4,[qT (decide ((i:Int)<(m:Int))),qT (decide ((i:Int)<(m:Int))),qT (decide ((i:Int)<(m:Int))),qT (decide ((i:Int)<(40:Int))),.q (.inb (i:Int) m) (fM true),qL 3 bb (o+((i:Int):Int).toNat*1) M (i64 k),qL 3 p 0 (aA.mk M.blks M.next M.hide []) (i64 N),qC 19 [i64 k,i64 N] (aA.mk M.blks M.next M.hide []) (i64 (aC k N)) a0,qL 3 p 0 (aA.mk a0.blks a0.next (aS 64 [⟨3,1,M.next,a0.next⟩,⟨2,1,M.next,M.next⟩]++M.hide) a0.log) (i64 N),qT (Nat.blt p M.next),qC 19 [i64 (aF k 13),i64 N] (aA.mk a0.blks a0.next M.hide a0.log) (i64 (aC (aF k 13) N)) a2,qC 19 [i64 (aF k 170),i64 5] (aA.mk a2.blks a2.next M.hide a2.log) (i64 (aC (aF k 170) 5)) a3,qC 19 [i64 (aF k 900),i64 9] (aA.mk a3.blks a3.next M.hide a3.log) (i64 (aC (aF k 900) 9)) a7,.eq (dL Try.prog 37 (aA.mk a7.blks a7.next (aS 0 [⟨14,1,a3.next,a7.next⟩,⟨11,1,a2.next,a3.next⟩,⟨8,1,a0.next,a2.next⟩,⟨3,1,M.next,a0.next⟩,⟨2,1,M.next,M.next⟩]++M.hide) a7.log)) (1,.val (pt b5 0),(aA.mk a4.blks a4.next (aS 0 [⟨14,1,a3.next,a7.next⟩,⟨11,1,a2.next,a3.next⟩,⟨8,1,a0.next,a2.next⟩,⟨3,1,M.next,a0.next⟩,⟨2,1,M.next,M.next⟩]++M.hide) a4.log)),qS 37 b5 0 (.agg ⟨[i64 (aC k N),i64 (aC (aF k 13) N),i64 (aC (aF k 170) 5),i64 (aC (aF k 900) 9)]⟩) (aA.mk (aA.mk a4.blks a4.next (aS 0 [⟨14,1,a3.next,a7.next⟩,⟨11,1,a2.next,a3.next⟩,⟨8,1,a0.next,a2.next⟩,⟨3,1,M.next,a0.next⟩,⟨2,1,M.next,M.next⟩]++M.hide) a4.log).blks (aA.mk a4.blks a4.next (aS 0 [⟨14,1,a3.next,a7.next⟩,⟨11,1,a2.next,a3.next⟩,⟨8,1,a0.next,a2.next⟩,⟨3,1,M.next,a0.next⟩,⟨2,1,M.next,M.next⟩]++M.hide) a4.log).next M.hide (aA.mk a4.blks a4.next (aS 0 [⟨14,1,a3.next,a7.next⟩,⟨11,1,a2.next,a3.next⟩,⟨8,1,a0.next,a2.next⟩,⟨3,1,M.next,a0.next⟩,⟨2,1,M.next,M.next⟩]++M.hide) a4.log).log) a1,qT (cQ [p] a1.log),qC 19 [i64 md,i64 3] (aA.mk a1.blks a1.next M.hide (a1.log++M.log)) (i64 (aC md 3)) c0,qF ((aC md 3)==(0:Int)),qC 19 [i64 md,i64 3] c0 (i64 (aC md 3)) c1,qF ((aC md 3)==(1:Int)),qC 19 [i64 k,i64 31] c1 (i64 (aC k 31)) b3,qF ((aC k 31)==(0:Int)),qL 24 p 1 b3 S,qL 37 b5 0 b3 (.agg ⟨[i64 (aC k N),i64 (aC (aF k 13) N),i64 (aC (aF k 170) 5),i64 (aC (aF k 900) 9)]⟩),.eq (bE Try.prog 24 1 [(0,(.agg ⟨[i64 (aC k N),i64 (aC (aF k 13) N),i64 (aC (aF k 170) 5),i64 (aC (aF k 900) 9)]⟩))] b3) (1,.val (aD a5 0 1 2),c2),.q (.append [24,24] S (aD a5 0 1 2) c2) ((bif b7 then 1 else 2),.val S160,c3),qS 24 p 1 S160 c3 b4]):=by cases b7<;>kernel_rfl
 dsimp only at hraw
 have r3:aA.mk M.blks M.next M.hide []=R1:=c5.symm
 have r4:aA.mk a0.blks a0.next M.hide a0.log=a0:=by rw[(show M.hide=a0.hide from((X0).hide.trans (h0).hide.symm))]
 have r5:aA.mk a0.blks a0.next (aS 64 [⟨3,1,M.next,a0.next⟩,⟨2,1,M.next,M.next⟩]++M.hide) a0.log=bP (aS 64 [⟨3,1,M.next,a0.next⟩,⟨2,1,M.next,M.next⟩]) a0:=by rw[(show M.hide=a0.hide from((X0).hide.trans (h0).hide.symm))];rfl
 have r7:aA.mk a2.blks a2.next M.hide a2.log=a2:=by rw[(show M.hide=a2.hide from((X0).hide.trans (l7).hide.symm))]
 have r8:aA.mk a3.blks a3.next M.hide a3.log=a3:=by rw[(show M.hide=a3.hide from((X0).hide.trans (l8).hide.symm))]
 have r9:aA.mk a4.blks a4.next M.hide a4.log=a4:=by rw[(show M.hide=a4.hide from((X0).hide.trans (m0).hide.symm))]
 have s0:(aA.mk a1.blks a1.next M.hide (a1.log++M.log))=(aA.mk a1.blks a1.next a1.hide (a1.log++M.log)):=by rw[(show M.hide=a1.hide from((X0).hide.trans (m1).hide.symm))]
 have s1:(aA.mk a1.blks a1.next a1.hide (a1.log++M.log))=c4:=a6.symm
 try rw[r3] at hraw
 try rw[r4] at hraw
 try rw[r5] at hraw
 try rw[r7] at hraw
 try rw[r8] at hraw
 try rw[r9] at hraw
 try rw[s0] at hraw
 try rw[s1] at hraw
 obtain⟨T1,h1,h2⟩:=Rd.told aJ aI (fun B=>lO (gF 19 Tv (gQ _))) (fun _ _=>rfl) hraw (hk (bT cc0) (hk (bT cc0) (hk (bT cc0) (hk (bT cc1) (hk (eW (by omega) (by simp at cc0;omega)) (hk (iP (aE X0 hld0)) (hk (lC cO g6 rfl) (hk (aN rfl q8 q2 m2) (hk (lC cO (bS.2 ⟨cY (by simp;omega),m6⟩) rfl) (hk (mE ltpM) (hk (aN rfl q9 q3 m3) (hk (aN rfl r0 q5 m4) (hk (aN rfl r1 q6 m5) (hk (bZ (by rw[<-c6,<-d4];kernel_rfl) Nat.one_ne_zero) (hk (eF r2) (hk (dZ (by rw[k6];simp<;>omega)) (hk (aN rfl k9 j8 h4) (hk (bF cc2) (hk (aN rfl l0 j9 h5) (hk (bF cc3) (hk (aN rfl l1 k0 h6) (hk (bF cc4) (hk (lC cP c7 rfl) (hk (lA ⟨tM,lS⟩ c8 rfl) (hk (bZ (by rw[<-b6,<-d3];kernel_rfl) Nat.one_ne_zero) (hk (jD l2 (by cases b7<;>simp)) (hk (eF l3) hn)))))))))))))))))))))))))))
 exact⟨T1,b4,S160,h1,h2,g9,e7,c9,i9,f9.less (by intro x hx;simp only [List.mem_cons,List.not_mem_nil,or_false] at hx;rcases hx with rfl|rfl<;>simp)⟩
theorem r9xa(p r6:Nat)(a:Option Addr)(m c i:Nat)(md:Int){M:aA}(hln:a.isNone=true->m=0/\c=0)(cc0:(decide ((i:Int)<(m:Int)))=true)(cc1:(decide ((i:Int)<(40:Int)))=false): ∃T1,Rd Try.prog [] (q10.loopAt 0) Try.f10.ntmps (fr [(1,(.slice a m c)),(2,(i64 md)),(6,(pt r6 0)),(7,(pt p 0)),(8,(i64 (i:Int)))]) M (.exit 0) T1 M/\ [6,7].map T1.get= [some (pt r6 0),some (pt p 0)]:=by
 exact Rd.told (tb:=[]) (n:=60) (F:=[aM 5,aM 10,aM 12,aM 15,aO 16]) aJ aI (aG Try.prog) (fun _ _=>rfl) (by kernel_rfl) (hk (lN hln) (hk (bT cc0) (hk (bT cc0) (hk (bT cc0) (hk (bF cc1) hn)))))
theorem r9xb(p r6:Nat)(a:Option Addr)(m c i:Nat)(md:Int){M:aA}(hln:a.isNone=true->m=0/\c=0)(cc0:(decide ((i:Int)<(m:Int)))=false): ∃T1,Rd Try.prog [] (q10.loopAt 0) Try.f10.ntmps (fr [(1,(.slice a m c)),(2,(i64 md)),(6,(pt r6 0)),(7,(pt p 0)),(8,(i64 (i:Int)))]) M (.exit 0) T1 M/\ [6,7].map T1.get= [some (pt r6 0),some (pt p 0)]:=by
 exact Rd.told (tb:=[]) (n:=60) (F:=[aM 5,aO 10,aO 12,aO 15]) aJ aI (aG Try.prog) (fun _ _=>rfl) (by kernel_rfl) (hk (lN hln) (hk (bF cc0) (hk (bF cc0) (hk (bF cc0) hn))))
def Zl(M0 M:aA)(p r6:Nat)(N:Int)(l:List E4):Prop:= ∃S,M.get p=some ⟨[i64 N,S],26,2,0,true⟩/\cU 37 4 M0 [p,r6] l.length ((l.map kL).flatten) S M
theorem step9(p r6 bb o m c i:Nat)(N md k:Int){l:List E4}{M M0:aA}(hM:aB M)(X0:Ext M0 M)(np:M0.next<=p)(hE:Zl M0 M p r6 N l)(gr6h:M.get r6=some ⟨[i64 0,cI],26,2,0,true⟩)(dpr6:p≠r6)(hN62:(decide (0<N)&&decide (N<2^62))=true)(hl:l.length<1073741824)(hi:i<m)(h40:i<40)(hld:aX Try.prog 3 ⟨bb,o+((i:Int):Int).toNat*1,none⟩ M0=some (i64 k)):
  ∃T1 M',Rd Try.prog [] (q10.loopAt 0) Try.f10.ntmps (fr [(1,(aD bb o m c)),(2,(i64 md)),(6,(pt r6 0)),(7,(pt p 0)),(8,(i64 (i:Int)))]) M .normal T1 M'/\ [1,2,6,7,8].map T1.get= [some (aD bb o m c),some (i64 md),some (pt r6 0),some (pt p 0),some (i64 (IntKind.wrap .i64 ((i:Int)+(1:Int))))]/\Ext M0 M'/\aB M'/\Zl M0 M' p r6 N (l++ [nW N md k])/\M'.get r6=some ⟨[i64 0,cI],26,2,0,true⟩:=by
 obtain⟨S,gp,hS⟩:=hE
 have hc:decide ((i:Int)<(m:Int))=true:=decide_eq_true (by omega)
 have a2:decide ((i:Int)<(40:Int))=true:=decide_eq_true (by omega)
 have fin: ∀{S':Value} {M':aA} {es:List Value},es=kL (nW N md k)->M'.get p=some ⟨[i64 N,S'],26,2,0,true⟩->cU 37 4 M0 [p,r6] (l.length+1) ((l.map kL).flatten++es) S' M'->Zl M0 M' p r6 N (l++ [nW N md k]):=fun{S' M' es} he h5 h7=>by
  subst he
  refine⟨S',h5,?_⟩
  rw[List.length_append,List.map_append,List.flatten_append]
  simpa using h7
 cases a0:(aC md 3)==(0:Int) with
 |true=>
  cases hz:(aC k 31)==(0:Int) with
  |true=>
   obtain⟨T1,M',S',h1,h2,h3,h4,h5,h6,h7⟩:=r90z p r6 bb o m c i N md k S l hM X0 np gp gr6h dpr6 hN62 hS hl hc a2 a0 hz hld
   exact⟨T1,M',h1,h2,h3,h4,fin (by simp only [nW,a0,hz,cond_true,cond_false]) h5 h7,h6⟩
  |false=>
   obtain⟨T1,M',S',h1,h2,h3,h4,h5,h6,h7⟩:=r90y p r6 bb o m c i N md k S l hM X0 np gp gr6h dpr6 hN62 hS hl hc a2 a0 hz hld
   exact⟨T1,M',h1,h2,h3,h4,fin (by simp only [nW,a0,hz,cond_true,cond_false]) h5 h7,h6⟩
 |false=>
  cases a1:(aC md 3)==(1:Int) with
  |true=>
   cases hz:(aC k 31)==(0:Int) with
   |true=>
    obtain⟨T1,M',S',h1,h2,h3,h4,h5,h6,h7⟩:=r91z p r6 bb o m c i N md k S l hM X0 np gp gr6h dpr6 hN62 hS hl hc a2 a0 a1 hz hld
    exact⟨T1,M',h1,h2,h3,h4,fin (by simp only [nW,a0,a1,hz,cond_true,cond_false]) h5 h7,h6⟩
   |false=>
    obtain⟨T1,M',S',h1,h2,h3,h4,h5,h6,h7⟩:=r91y p r6 bb o m c i N md k S l hM X0 np gp gr6h dpr6 hN62 hS hl hc a2 a0 a1 hz hld
    exact⟨T1,M',h1,h2,h3,h4,fin (by simp only [nW,a0,a1,hz,cond_true,cond_false]) h5 h7,h6⟩
  |false=>
   cases hz:(aC k 31)==(0:Int) with
   |true=>
    obtain⟨T1,M',S',h1,h2,h3,h4,h5,h6,h7⟩:=r92z p r6 bb o m c i N md k S l hM X0 np gp gr6h dpr6 hN62 hS hl hc a2 a0 a1 hz hld
    exact⟨T1,M',h1,h2,h3,h4,fin (by simp only [nW,a0,a1,hz,cond_true,cond_false]) h5 h7,h6⟩
   |false=>
    obtain⟨T1,M',S',h1,h2,h3,h4,h5,h6,h7⟩:=r92y p r6 bb o m c i N md k S l hM X0 np gp gr6h dpr6 hN62 hS hl hc a2 a0 a1 hz hld
    exact⟨T1,M',h1,h2,h3,h4,fin (by simp only [nW,a0,a1,hz,cond_true,cond_false]) h5 h7,h6⟩
theorem aAB{p r6:Nat}{a:Option Addr}{c:Nat}{N md:Int}{ns:List Int}{M0 M:aA}(hM:aB M)(X:Ext M0 M)(hs:aP ns (.slice a ns.length c) M0)(np:M0.next<=p)(gp:M.get p=some ⟨[i64 N,cI],26,2,0,true⟩)(gr6h:M.get r6=some ⟨[i64 0,cI],26,2,0,true⟩)(dpr6:p≠r6)(hN62:(decide (0<N)&&decide (N<2^62))=true):
  ∃M',bJ Try.prog [] (q10.loopAt 0) Try.f10.ntmps (fr [(1,.slice a ns.length c),(2,i64 md),(6,pt r6 0),(7,pt p 0),(8,i64 ((0:Nat):Int))]) M (.exit 0) (fr [(6,pt r6 0),(7,pt p 0)]) M'/\Ext M0 M'/\aB M'/\M'.get r6=some ⟨[i64 0,cI],26,2,0,true⟩/\Zl M0 M' p r6 N ((ns.take 40).map (nW N md)):=by
 have hlen:=hs.len
 obtain⟨_,M',h1,h2,h3,h4,h5⟩:=bJ.for (P:=Try.prog) (GL:= []) (b:=q10.loopAt 0) (nt:=Try.f10.ntmps) (id:=0) (σ:=Unit) (n:=(ns.take 40).length) (Inv:=fun i _ M1=>Ext M0 M1/\aB M1/\M1.get r6=some ⟨[i64 0,cI],26,2,0,true⟩/\Zl M0 M1 p r6 N ((ns.take i).map (nW N md)))
  (F:=fun i _=> [(1,.slice a ns.length c),(2,i64 md),(6,pt r6 0),(7,pt p 0),(8,i64 ((i:Nat):Int))])
  (O:=fun _=> [(6,pt r6 0),(7,pt p 0)])
  (by
   rintro i _ M1 hi ⟨X1,a0,a1,hE⟩
   rw[List.length_take] at hi
   obtain⟨bb,o,rfl,_⟩:=cD hs (by omega)
   have ht:ns[i]?=some ns[i]:=List.getElem?_eq_getElem (by omega)
   obtain⟨T1,M2,h1,h2,h3,h4,h5,h6⟩:=step9 p r6 bb o ns.length c i N md ns[i] a0 X1 np hE a1 dpr6 hN62 (by simp;omega) (by omega) (by omega) (iC (P:=Try.prog) (ty:=3) hs ht rfl cO)
   rw[aY (by omega)] at h2
   refine⟨(),T1,M2,h1,h2,h3,h4,h6,?_⟩
   rw[List.take_succ_eq_append_getElem (by omega),List.map_append]
   exact h5)
  (by
   rintro _ M1 ⟨X1,a0,a1,hE⟩
   by_cases h:ns.length<=40
   ·rw[List.take_of_length_le h]
    exact r9xb p r6 a ns.length c ns.length md hs.ln (decide_eq_false (by omega))
   ·rw[List.length_take,Nat.min_eq_left (by omega)]
    exact r9xa p r6 a ns.length c 40 md hs.ln (decide_eq_true (by omega)) (decide_eq_false (by omega)))
  (ns.take 40).length 0 (by omega) (s:=()) (M:=M) ⟨X,hM,gr6h,cI,gp,.inl ⟨rfl,rfl,rfl⟩⟩
 refine⟨M',h1,h2,h3,h4,?_⟩
 rw[List.length_take,<-List.take_take,List.take_length] at h5
 exact h5
theorem rK10:Try.f10.results= #[.cell 6 26]:=by kernel_rfl
theorem Sx{M0 M M':aA}{S:Value}{l:List E4}{p r6:Nat}(h:cU 37 4 M0 [p,r6] l.length ((l.map kL).flatten) S M)(hk: ∀id,id≠r6->M'.get id=M.get id)(hl:l.length<=9223372036854775807):aV l S (hid M0.next M'):=by
 rcases h with⟨rfl,h0,_⟩|⟨b,rfl,_,_,h3,h5,h6⟩
 ·rw[List.eq_nil_of_length_eq_zero h0];exact aK.nil none
 ·exact aK.of_blk' (iZ h3 ((hk b (fun e=>h5 (by simp [e]))).trans h6)) rfl rfl (fun _ _=>rfl) hl
theorem w9(size:Int)(ans:Option Addr)(cns:Nat)(ns:List Int)(md:Int){M:aA}(hM:aB M)(hns:aP ns (.slice ans ns.length cns) M): ∃v_ M',Ev Try.prog [] 10 [i64 size,.slice ans ns.length cns,i64 md] M v_ M'/\Ext M M'/\aB M'/\fG jC (eB size,pM size ns md) M.next v_ M':=by
 obtain⟨b1,M2,c8,d6,g5,E6,e0⟩:=bG hM ⟨[i64 0,cI],26,2,0,true⟩
 have e2:M.next<=b1:=by rw[<-c8];exact(Ext.refl M).next
 have X9:=(Ext.refl M).trans E6
 obtain⟨e6,e7,a7,e5,e1,d5,c5,b7,d0⟩:=aH (x:=(size,12)) e0 cW (⟨⟨_,_,rfl,rfl,rfl⟩,rfl⟩)
 have c9:=c5.old g5
 have b0:e6=(i64 (aC size 12)):=d0
 subst b0
 have c7:=X9.trans c5
 obtain⟨a0,a8,a2,a9,d7,c6,b8⟩:=bG b7 ⟨[i64 0,cI],26,2,0,true⟩
 have a3:M.next<=a0:=by rw[<-a2];exact c7.next
 have db1b22:b1≠a0:=by have:=aA.lt_of_get c9;omega
 have d8:=c6.old c9
 have d1:=c7.trans c6
 obtain⟨a4,q33,b2,c2,d2,b9,e3⟩:=bH (o:=0) (v:=(.agg ⟨[i64 (IntKind.wrap .i64 ((1:Int)+(aC size 12))),cI]⟩)) (new:= [i64 (IntKind.wrap .i64 ((1:Int)+(aC size 12))),cI]) d1 a3 b8 pS d7 rfl rfl (Nat.zero_le _) (Nat.le_of_ble_eq_true rfl) rfl
 replace b2:a4.get a0=some ⟨[i64 (IntKind.wrap .i64 ((1:Int)+(aC size 12))),cI],26,2,0,true⟩:=b2
 have d9:=(c2 _ db1b22).trans d8
 obtain⟨a5,b6,d3,c0,b4,a1,b5,c4⟩:=aAB (md:=md) b9 d2 hns a3 (N:=(eB size:Int)) (by rw[<-Wp];exact b2) d9 (Ne.symm db1b22) (by have:=nL size;simp only [Bool.and_eq_true,decide_eq_true_eq];omega)
 have hcS:isCell a1=true:=cU.isCell c4
 obtain⟨a6,q49,b3,c3,d4,c1,e4⟩:=bH (o:=0) (v:=(.agg ⟨[i64 (eB size:Int),a1]⟩)) (new:= [i64 (eB size:Int),a1]) d3 e2 c0 pS b4 rfl (by show(isCell (i64 _)&&(isCell a1&&true))=true;rw[hcS];rfl) (Nat.zero_le _) (Nat.le_of_ble_eq_true rfl) rfl
 replace b3:a6.get b1=some ⟨[i64 (eB size:Int),a1],26,2,0,true⟩:=b3
 exact⟨.agg ⟨[i64 (eB size:Int),a1]⟩,a6,Ev.told_cell (tb:=[0]) (n:=60) (F:=[bL 1 (pt b1 0) M2,bL 5 (i64 (aC size 12)) a7,bL 11 (pt a0 0) a8,lP 13 a4,.blk 16 [1,2,6,7,8] .normal (fr [(6,(pt b1 0)),(7,(pt a0 0))]) a5,aU 18 (.agg ⟨[i64 (eB size:Int),a1]⟩),lP 20 a6]) aJ aI Try.func10 Wx (by kernel_rfl) rK10 (fun B=>zN (gF 19 Tv (gQ _)) 0 b6) (fun _ h=>cF h) (by kernel_rfl) (lZ (a:=⟨b1,0,none⟩) rW pS b3 rfl) (hq (.eq (dL Try.prog 26 M) (1,.val (pt b1 0),M2)) (bZ (by rw[<-c8,<-d6];kernel_rfl) Nat.one_ne_zero) (hq (qC 19 [i64 size,i64 12] M2 (i64 (aC size 12)) a7) (aN rfl e5 e1 d5) (hq (.eq (dL Try.prog 26 a7) (1,.val (pt a0 0),a8)) (bZ (by rw[<-a2,<-a9];kernel_rfl) Nat.one_ne_zero) (hq (qS 26 a0 0 (.agg ⟨[i64 (IntKind.wrap .i64 ((1:Int)+(aC size 12))),cI]⟩) a8 a4) (eF q33) (hq (.blk 0 (.loop (q10.loopAt 0)) Try.f10.ntmps [1,2,6,7,8] [some (.slice ans ns.length cns),some (i64 md),some (pt b1 0),some (pt a0 0),some (i64 0)] a4 .normal (fr [(6,(pt b1 0)),(7,(pt a0 0))]) a5) (fH rfl) (hq (qL 26 a0 0 a5 (.agg ⟨[i64 (eB size:Int),a1]⟩)) (lA ⟨rW,pS⟩ b5 rfl) (hq (qS 26 b1 0 (.agg ⟨[i64 (eB size:Int),a1]⟩) a5 a6) (eF q49) hn))))))),d4,c1,⟨_,rfl,Sx c4 c3 (Nat.le_trans (by rw[List.length_map,List.length_take];exact Nat.min_le_left _ _:(List.map (nW (eB size:Int) md) (ns.take 40)).length<=40) (by decide))⟩⟩
abbrev Q10:=FC (Uu pI aP pI) (fG jC) (fun x=>(eB x.1,pM x.1 x.2.1 x.2.2))
theorem Zq{x:Int×List Int×Int}{lv:List Value}{M:aA}(hM:aB M)(h:(Uu pI aP pI) x lv M): ∃v M',lQ Try.prog [] 10 Q10 lv M v M':=by
 refine FC.con h ?_
 obtain⟨g0,g1,g2,rfl,k0,k1,k2⟩:=h
 obtain⟨size,ns,md⟩:=x
 obtain rfl:=k0
 obtain rfl:=k2
 obtain⟨a,c,rfl⟩:=aK.form k1
 obtain⟨v,M',h1,h2,_,h3⟩:=w9 size a c ns md hM k1
 exact⟨v,M',h1,h2,h3⟩
end Go.Proofs.Ytdaglldahidmbaa
