/-
  Package hier: each of its laws for every argument; no conditions. The last text states which.
-/
import Derived.Test.YtdaglldahidmbaaGreatGVP4
import Derived.Test.YtdaglldahidmbaaGreatGAmBk
import Derived.Test.YtdaglldahidmbaaGreatGAmMk
set_option linter.unusedVariables false
set_option linter.unusedSimpArgs false
open Go Go.Am Go.Proofs Tryz
namespace Go.Proofs.YtdaglldahidmbaaGreat
set_option maxRecDepth 100000
theorem Sv:(prog.underlying 4).map dV=some false:=by kernel_rfl
theorem dS4:(prog.info? 4).map (·.size)=some 1:=by kernel_rfl
theorem r23(D E n ab bb o m c i p q w:Nat)(x:Int)(cd ce:List Value)(ad:eV){M M0:aB}(hM:aA M)(X0:Ext M0 M)(hD:M0.next<=D)(hE:M0.next<=E)(gD:M.get D=some ⟨cd,3,1,0,true⟩)(gE:M.get E=some ⟨ce,22,1,0,true⟩)(b8:D≠E)(b4:eT 118 ad (pt ab 0) M0)(d6:rE ad)(b7:(decide ((i:Int)<(m:Int)))=true)(b5:bA prog 3 ⟨bb,o+((i:Int):Int).toNat*1,none⟩ M0=some (i64 x))(a4:0<=(((dU ad x:Nat):Int):Int)/\(((dU ad x:Nat):Int):Int)<801)(d4:(ce)[0+(((dU ad x:Nat):Int):Int).toNat*1]?=some (aC D p q w))(a5:q+1<w/\p+(q+1)*1<=(cd).length/\q<1073741824)(b6:0+(((dU ad x:Nat):Int):Int).toNat*1+1<=(ce).length): ∃T1 M',Rd prog [] (q59.loopAt 0) Tryz.f59.ntmps (fr [(1,(.func (.func 61) ⟨[.agg ⟨[i64 (n:Int),pt ab 0]⟩]⟩ ⟨[]⟩)),(5,(aC D 0 m (m+1))),(6,(aC E 0 801 802)),(18,(aC bb o m c)),(19,(i64 (m:Int))),(20,(i64 (i:Int)))]) M .normal T1 M'/\ [1,5,6,18,19,20].map T1.get= [some (.func (.func 61) ⟨[.agg ⟨[i64 (n:Int),pt ab 0]⟩]⟩ ⟨[]⟩),some (aC D 0 m (m+1)),some (aC E 0 801 802),some (aC bb o m c),some (i64 (m:Int)),some (i64 (IntKind.wrap .i64 ((i:Int)+(1:Int))))]/\Ext M0 M'/\aA M'/\M'.get D=some ⟨splice cd (p+q*1) [i64 x],3,1,0,true⟩/\M'.get E=some ⟨splice ce (0+(((dU ad x:Nat):Int):Int).toNat*1) [aC D p (q+1) w],22,1,0,true⟩/\ ∀id k,M.get id=some k->id≠D->id≠E->M'.get id=some k:=by
 obtain⟨w1,N2,M3,p4,l5,e6,E7,d3,F9⟩:=aL (x:=((n,ad),x)) hM Xz (⟨⟨_,_,rfl,⟨_,rfl,AP.Ext (R:=(eT 118)) b4 X0⟩,rfl⟩,d6⟩)
 have c5:=E7.old gD
 have b9:=E7.old gE
 have c4:w1=(i64 ((dU ad x:Nat):Int)):=F9
 subst c4
 have c0:=X0.trans E7
 obtain⟨a8,a6,a9,b0,c6,a2,b1⟩:=bC d3 ⟨[i64 x],3,1,0,true⟩
 have c7:=a2.old c5
 have c8:=a2.old b9
 have c1:=c0.trans a2
 obtain⟨a7,q26,c9,a0,c2,b2,d7⟩:=Ad (P:=prog) (sT:=22) (xT:=22) (elem:=3) (w:=1) (y:=8) (cx:=2) c1 hD b1 (by kernel_rfl) (by kernel_rfl) (by kernel_rfl) (by decide) (by decide) a5.2.2 c6 (ox:=0) (new:= [i64 x]) rfl rfl rfl c7 (wO (n:=q*1) (k:=p) (l:=cd) (by have:=a5.2.1;omega)) rfl rfl (Nat.zero_le _) a5.1 a5.2.1
 have d0:=(a0 _ (Ne.symm b8)).trans c8
 obtain⟨a3,d9,d1,a1,c3,b3,d8⟩:=aZ (o:=0+(((dU ad x:Nat):Int):Int).toNat*1) (v:=(aC D p (q+1) w)) (new:=splice ce (0+(((dU ad x:Nat):Int):Int).toNat*1) [aC D p (q+1) w]) c2 hE b2 Nv d0 rfl rfl (Nat.zero_le _) b6 rfl
 have d2:=(a1 _ b8).trans c9
 have d5: ∀id k,M.get id=some k->id≠D->id≠E->a3.get id=some k:=fun id k g h_D h_E=>by
  have g:=E7.old g
  have g:=a2.old g
  have g:=((fun id h _=>a0 id h) id h_D (aB.lt_of_get g)).trans g
  have g:=((fun id h _=>a1 id h) id h_E (aB.lt_of_get g)).trans g
  exact g
 obtain⟨T1,h1,h2⟩:=Rd.told (tb:=[]) (n:=60) (F:=[aQ 2,aQ 4,aR 6 (i64 x),bJ 14 (i64 ((dU ad x:Nat):Int)) M3,aQ 26,aR 28 (aC D p q w),bJ 32 (aC a8 0 1 2) a6,.at 34 (2,.val (aC D p (q+1) w),a7),aQ 36,jE 38 a3]) aG aF (fun B=>lV (gH 61 Q61 (gL _))) (fun _ _=>rfl) (by kernel_rfl) (hk (bT b7) (hk (qI (i:Int) m (by omega) (by simp at b7;omega)) (hk (lD (aN X0 b5)) (hq (qC 61 [.agg ⟨[i64 (n:Int),pt ab 0]⟩,i64 x] M (i64 ((dU ad x:Nat):Int)) M3) (aK rfl p4 l5 e6) (hk (qI ((dU ad x:Nat):Int) 801 a4.1 a4.2) (hq (qL 22 E (0+(((dU ad x:Nat):Int):Int).toNat*1) M3 (aC D p q w)) (eO (bI (a:=⟨E,0+(((dU ad x:Nat):Int):Int).toNat*1,none⟩) jW b9 d4)) (hq (.eq (bH prog 22 1 [(0,(i64 x))] M3) (1,.val (aC a8 0 1 2),a6)) (bN (by rw[<-a9,<-b0];kernel_rfl) xAc) (hq (.q (.append [22,22] (aC D p q w) (aC a8 0 1 2) a6) (2,.val (aC D p (q+1) w),a7)) (kB q26 (Nat.succ_ne_zero _)) (hk (qI ((dU ad x:Nat):Int) 801 a4.1 a4.2) (hq (qS 22 E (0+(((dU ad x:Nat):Int):Int).toNat*1) (aC D p (q+1) w) a7 a3) (dB d9) hn))))))))))
 exact⟨T1,a3,h1,h2,c3,b3,d2,d1,d5⟩
theorem r23x(D E n ab:Nat)(a:Option Addr)(m c i:Nat){M:aB}(a0:(decide ((i:Int)<(m:Int)))=false): ∃T1,Rd prog [] (q59.loopAt 0) Tryz.f59.ntmps (fr [(1,(.func (.func 61) ⟨[.agg ⟨[i64 (n:Int),pt ab 0]⟩]⟩ ⟨[]⟩)),(5,(aC D 0 m (m+1))),(6,(aC E 0 801 802)),(18,(.slice a m c)),(19,(i64 (m:Int))),(20,(i64 (i:Int)))]) M (.exit 0) T1 M/\ [5].map T1.get= [some (aC D 0 m (m+1))]:=by
 exact Rd.told (tb:=[]) (n:=60) (F:=[aO 2]) aG aF (aI prog) (fun _ _=>rfl) (by kernel_rfl) (hk (bF a0) hn)
theorem Zr{a:Option Addr}{c D E n ab:Nat}{ad:eV}{vs:List Int}{M0 M:aB}(hM:aA M)(X:Ext M0 M)(hs:aH vs (.slice a vs.length c) M0)(a1:eT 118 ad (pt ab 0) M0)(a3:rE ad)(hl:vs.length<=60)(hD:M0.next<=D)(hE:M0.next<=E)(a7:D≠E)(gE:M.get E=some ⟨dQ D (oS (gW ad vs)) (fun _=>0) 801,22,1,0,true⟩)(gD:M.get D=some ⟨List.replicate vs.length (i64 0),3,1,0,true⟩):
  ∃M',bL prog [] (q59.loopAt 0) Tryz.f59.ntmps (fr [(1,(.func (.func 61) ⟨[.agg ⟨[i64 (n:Int),pt ab 0]⟩]⟩ ⟨[]⟩)),(5,aC D 0 vs.length (vs.length+1)),(6,aC E 0 801 802),(18,.slice a vs.length c),(19,i64 vs.length),(20,i64 ((0:Nat):Int))]) M (.exit 0) (fr [(5,aC D 0 vs.length (vs.length+1))]) M'/\Ext M0 M'/\aA M'/\M'.get D=some ⟨(sE ad vs).map i64,3,1,0,true⟩:=by
 have a2:=He a3 vs
 obtain⟨_,M',h1,h2,h3,h4,mem,h5,h6⟩:=bL.for (P:=prog) (GL:= []) (b:=q59.loopAt 0) (nt:=Tryz.f59.ntmps) (id:=0) (σ:=Unit) (n:=vs.length) (Inv:=fun i _ M1=>Ext M0 M1/\aA M1/\M1.get E=some ⟨dQ D (oS (gW ad vs)) (iR (iD ad vs) i) 801,22,1,0,true⟩/\ ∃mem,M1.get D=some ⟨mem,3,1,0,true⟩/\Bk (oS (gW ad vs)) 801 (iD ad vs) (fun j=>i64 ((vs[j]?).getD 0)) i mem)
  (F:=fun i _=> [(1,(.func (.func 61) ⟨[.agg ⟨[i64 (n:Int),pt ab 0]⟩]⟩ ⟨[]⟩)),(5,aC D 0 vs.length (vs.length+1)),(6,aC E 0 801 802),(18,.slice a vs.length c),(19,i64 vs.length),(20,i64 ((i:Nat):Int))])
  (O:=fun _=> [(5,aC D 0 vs.length (vs.length+1))])
  (by
   rintro i _ M1 hi ⟨X1,a5,a8,mem,a9,hB⟩
   obtain⟨bb,o,rfl,_⟩:=bU hs (by omega)
   have ht:vs[i]?=some vs[i]:=xAe hi
   have hk:dU ad vs[i]=iD ad vs i:=by unfold iD;rw[ht];rfl
   have hle:=tM a3 vs[i]
   have a0:iD ad vs i<801:=by omega
   have a6:iR (iD ad vs) i (iD ad vs i)<oS (gW ad vs) (iD ad vs i):=by rw[yY a0];exact Sj (iD ad vs) hi
   have hroom:=hB.room a0 a6
   have hc:=Cq (iD ad vs) i (iD ad vs i)
   have e0:0+(((dU ad vs[i]:Nat):Int):Int).toNat*1=iD ad vs i:=by rw[hk];simp
   obtain⟨T1,M2,h1,h2,h3,h4,h5,h6,_⟩:=r23 D E n ab bb o vs.length c i (dX (oS (gW ad vs)) (iD ad vs i)) (iR (iD ad vs) i (iD ad vs i)) (oS (gW ad vs) (iD ad vs i)+1) vs[i] _ _ ad a5 X1 hD hE a9 a8 a7 a1 a3 (xAb (by omega)) (iX (P:=prog) (ty:=3) hs ht rfl bQ) (by omega) (by rw[e0];exact hZ _ _ _ a0) ⟨by omega,by omega,by omega⟩ (by rw[e0,fU];omega)
   rw[bD (by omega)] at h2
   rw[e0,vG D _ (iD ad vs) i 801 a0] at h6
   have a4:=hB.step a0 a6
   simp only [ht,Option.getD_some] at a4
   rw[show dX (oS (gW ad vs)) (iD ad vs i)+iR (iD ad vs) i (iD ad vs i)=dX (oS (gW ad vs)) (iD ad vs i)+iR (iD ad vs) i (iD ad vs i)*1 by omega] at a4
   exact⟨(),T1,M2,h1,h2,h3,h4,h6,_,h5,a4⟩)
  (by
   rintro _ M1 ⟨X1,a5,_⟩
   exact r23x D E n ab a vs.length c vs.length (M:=M1) (xAa (by omega)))
  vs.length 0 (by omega) (s:=()) (M:=M) ⟨X,hM,gE,_,gD,Bk.zero (by rw[a2];simp)⟩
 refine⟨M',h1,h2,h3,?_⟩
 rw[h5,Rj h6]
theorem rK59:Tryz.f59.results= #[.tmp 4]:=by kernel_rfl
theorem w23(n ab:Nat)(ad:eV)(av:Option Addr)(cv:Nat)(vs:List Int){M:aB}(hM:aA M)(b3:aH vs (.slice av vs.length cv) M)(a6:eT 118 ad (pt ab 0) M)(a7:rE ad)(a1:vs.length<=60): ∃v_ M',Ev prog [] 59 [.slice av vs.length cv,.func (.func 61) ⟨[.agg ⟨[i64 (n:Int),pt ab 0]⟩]⟩ ⟨[]⟩] M v_ M'/\Ext M M'/\aA M'/\iE aH (sE ad vs) M.next v_ M':=by
 obtain⟨b1,M2,d2,d3,g5,E6,d6⟩:=tS (P:=prog) (t:=22) (elem:=3) (z:=(i64 0)) (n:=vs.length) hM (by kernel_rfl) (by kernel_rfl) (by omega)
 have c5:M.next<=b1:=by rw[<-d2];exact(Ext.refl M).next
 have X8:=(Ext.refl M).trans E6
 obtain⟨e1,e2,a8,d9,d7,d0,c1,b8,c6⟩:=aL (x:=(vs,n,ad)) d6 con87 (⟨⟨_,_,rfl,AP.Ext (R:=aH) b3 X8,_,rfl,_,rfl,AP.Ext (R:=(eT 118)) a6 X8⟩,a7,a1⟩)
 have b2:=c1.old g5
 have c3:vD (gW ad vs) e1 (cI [(0,M2.next)] a8):=kV c6
 obtain⟨a9,b6,a3⟩:=aJ.form (l:=(gW ad vs).map fun k=>((k:Nat):Int)) c3
 rw[List.length_map,sG] at a3
 subst a3
 have c4:=X8.trans c1
 have ltb1M27:=aB.lt_of_get b2
 obtain⟨w25,e3,b4,e0,d8,d1,c2,b9,c7⟩:=aL (x:=((b1,vs.length),gW ad vs)) b8 Ye (⟨⟨_,_,rfl,⟨rfl,_,b2⟩,eF (R:=vD) c3⟩,by rw[sG];exact Nat.le_refl _,by rw[sG,He a7];exact Nat.le_refl _,a1⟩)
 have d4:=c2.old b2
 obtain⟨b0,a4,a2,a5⟩:=c7
 simp only [id,sG] at a4 a5
 subst a4
 have a0:b1≠b0:=by have:=aB.lt_of_get b2;omega
 have a2:=Nat.le_trans (c4).next a2
 have c8:=c4.trans c2
 obtain⟨b5,b7,c9,c0,d5⟩:=Zr b9 c8 b3 a6 a7 a1 c5 a2 a0 a5 d4
 exact⟨aC b1 0 vs.length (vs.length+1),b5,Ev.told_tmp (tb:=[0]) (n:=60) (F:=[aQ 5,bJ 7 (aC b1 0 vs.length (vs.length+1)) M2,bJ 17 (.slice a9 801 b6) a8,bJ 19 (aC b0 0 801 802) b4,aQ 25,.blk 28 [1,5,6,18,19,20] .normal (fr [(5,(aC b1 0 vs.length (vs.length+1)))]) b5]) aG aF Tryz.func59 aAQ (by kernel_rfl) rK59 (fun B=>wR (gH 86 Q86 (gH 87 Q87 (gL _))) 0 b7) (fun _ h=>bZ h) (by kernel_rfl) (hk (lN b3.ln) (hq (.eq (bX prog 22 (i64 (vs.length:Int)) (i64 (vs.length:Int)) M) (1,.val (aC b1 0 vs.length (vs.length+1)),M2)) (bN d3 xAc) (hq (qC 87 [.slice av vs.length cv,.func (.func 61) ⟨[.agg ⟨[i64 (n:Int),pt ab 0]⟩]⟩ ⟨[]⟩] M2 (.slice a9 801 b6) a8) (aK rfl d9 d7 d0) (hq (qC 86 [aC b1 0 vs.length (vs.length+1),.slice a9 801 b6] a8 (aC b0 0 801 802) b4) (aK rfl e0 d8 d1) (hk (lN b3.ln) (hq (.blk 0 (.loop (q59.loopAt 0)) Tryz.f59.ntmps [1,5,6,18,19,20] [some (.func (.func 61) ⟨[.agg ⟨[i64 (n:Int),pt ab 0]⟩]⟩ ⟨[]⟩),some (aC b1 0 vs.length (vs.length+1)),some (aC b0 0 801 802),some (.slice av vs.length cv),some (i64 (vs.length:Int)),some (i64 0)] b4 .normal (fr [(5,(aC b1 0 vs.length (vs.length+1)))]) b5) (fB rfl) hn)))))),c9,c0,aJ.of_blk' (b:=b1) (w:=1) (g:=Oa) (jJ c5 d5) (Ax a7 vs) (xJ _).symm (fun _ _=>rfl) (by rw[Ax a7];omega)⟩
abbrev Q59:=FC (gN (lX aH (Dy 61 118)) fun x=>rE x.2.2/\x.1.length<=60) (iE aH) (fun x=>sE x.2.2 x.1)
theorem con59{x:List Int×Nat×eV}{lv:List Value}{M:aB}(hM:aA M)(h:(gN (lX aH (Dy 61 118)) fun x:List Int×Nat×eV=>rE x.2.2/\x.1.length<=60) x lv M): ∃v M',kR prog [] 59 Q59 lv M v M':=by
 refine FC.con h ?_
 obtain⟨⟨g0,g1,rfl,k0,k1⟩,a1,hl⟩:=h
 obtain⟨vs,n,ad⟩:=x
 obtain⟨av,cv,rfl⟩:=aJ.form k0
 obtain⟨s,rfl,p,rfl,a0⟩:=k1
 obtain⟨ab,o,i_,t,s,rfl,gab,hout,hinn,hto,hset⟩:=id a0
 obtain⟨v',M',h1,h2,_,h3⟩:=w23 n ab ad av cv vs hM k0 a0 a1 hl
 exact⟨v',M',h1,h2,h3⟩
open Tryz
theorem rK27:Tryz.f27.results= #[.tmp 2]:=by kernel_rfl
theorem Rm(n:Nat)(al:Option Addr)(cl:Nat)(l:List E4){M:aB}(hM:aA M)(hl:aS l (.slice al l.length cl) M)(h3:fC (n:Int) l=true)(f3:rE (jA n l))(b4:n<=60): ∃v_ M',Ev prog [] 27 [.agg ⟨[i64 (n:Int),.slice al l.length cl]⟩] M v_ M'/\Ext M M'/\aA M'/\iE aH (bW n l) M.next v_ M':=by
 obtain⟨b1,M2,g9,h0,g5,E6,h2⟩:=bC hM ⟨[i64 (n:Int),.slice al l.length cl],26,2,0,true⟩
 have X9:=(Ext.refl M).trans E6
 have ltb1M15:=aB.lt_of_get g5
 obtain⟨Rm,i9,b5,h9,h4,g8,e1,c9,f6⟩:=aL (x:=(n,l)) h2 con58 (⟨⟨_,rfl,_,rfl,AP.Ext (R:=aS) hl X9⟩,h3⟩)
 have h7:=e1.next
 obtain⟨j2,b3,c0⟩:mV 118 (n,jA n l) Rm (cI [(0,M2.next)] b5):=kV f6
 simp only at b3 c0
 obtain⟨a1,_,_,_,_,c6,_⟩:=id c0
 subst c6
 subst b3
 have e6:=X9.trans e1
 obtain⟨a8,c1,a9,c5,h1,e2,d0⟩:=bC c9 ⟨[i64 0,.pointer none],83,2,0,true⟩
 have e0:M.next<=a8:=(lQ a9 e6:)
 have f7:=jK (R:=(eT 118)) c0 a9 e2
 have g4:=e6.trans e2
 obtain⟨a0,i2,f0,d6,b2,d1,h8⟩:=aZ (o:=0) (v:=(.agg ⟨[i64 (n:Int),pt a1 0]⟩)) (new:= [i64 (n:Int),pt a1 0]) g4 e0 d0 Fe h1 rfl rfl (Nat.zero_le _) (xAd rfl) rfl
 have f8:=hQ (R:=(eT 118)) f7 (fun id h _=>d6 id h) (by intro id hh;simp only [bR] at hh;omega)
 obtain⟨b6,a4⟩:=Jk a0 a0 []
 have g6:=Nk a4 b2
 have d7:b6.log= []:=by rw[a4]
 have d2:=Jl a4 d1
 have a6:=aB.lt_of_get f0
 have f1:=cF a4 f0
 have e3:=gJ (R:=(eT 118)) (M':=b6) f8 (fun id b h=>by rw[a4];exact h)
 obtain⟨w56,j0,a3,i0,h5,e8,b9,d3,g0⟩:=aL (x:=(n,jA n l)) d2 con60 (⟨⟨_,rfl,_,rfl,eF (R:=eT 118) e3⟩,f3,b4⟩)
 have g1:=fT (R:=(eT 118)) e3 b9
 have f2:=b9.old f1
 have e4:aH (dN (jA n l) n) w56 (cI [(0,b6.next)] a3):=kV g0
 obtain⟨c3,c4,c7⟩:=aJ.form e4
 subst c7
 have d8:a3.log= []:=by rw[<-e8];exact d7
 have c2:=g6.trans b9
 have ltb25M76:=aB.lt_of_get f2
 obtain⟨i8,j1,a2,i1,h6,e9,f4,d4,g2⟩:=aL (x:=(dN (jA n l) n,n,jA n l)) d3 con59 (⟨⟨_,_,rfl,eF (R:=aH) e4,_,rfl,_,rfl,eF (R:=eT 118) g1⟩,f3,Nat.le_trans (sB (jA n l) n) b4⟩)
 have e5:aH (bW n l) i8 (cI [(0,a3.next)] a2):=kV g2
 obtain⟨b7,b8,c8⟩:=aJ.form e5
 subst c8
 have d9:a2.log= []:=by rw[<-e9];exact d8
 have e7:=c2.trans f4
 obtain⟨b0,a7⟩: ∃m:aB,m=(aB.mk a2.blks a2.next a2.hide (a2.log++a0.log)):=⟨_,rfl⟩
 have g7:Ext M b0:=by rw[a7];exact Ext.join (b2) (e7)
 have d5:aA b0:=by rw[a7];exact d4
 have g3:=gJ (R:=aH) (M':=b0) e5 (fun id b h=>by rw[a7];exact h)
 have a5:oT prog [] 60 Tryz.f27 q27 [.agg ⟨[i64 (n:Int),.slice al l.length cl]⟩] M [bJ 1 (pt b1 0) M2,aR 5 (.agg ⟨[i64 (n:Int),.slice al l.length cl]⟩),bJ 7 (.agg ⟨[i64 (n:Int),pt a1 0]⟩) b5,bJ 9 (pt a8 0) c1,jE 11 a0,aR 13 (.agg ⟨[i64 (n:Int),pt a1 0]⟩),bJ 15 (.slice c3 (dN (jA n l) n).length c4) a3,aR 17 (.agg ⟨[i64 (n:Int),pt a1 0]⟩),bJ 21 (.slice b7 (bW n l).length b8) a2] 2=some (.ret,some (.slice b7 (bW n l).length b8),aB.mk a2.blks a2.next a0.hide (a2.log++a0.log),[.eq (eI prog 26 (.agg ⟨[i64 (n:Int),.slice al l.length cl]⟩) M) (1,.val (pt b1 0),M2),qL 26 b1 0 M2 (.agg ⟨[i64 (n:Int),.slice al l.length cl]⟩),qC 58 [.agg ⟨[i64 (n:Int),.slice al l.length cl]⟩] M2 (.agg ⟨[i64 (n:Int),pt a1 0]⟩) b5,.eq (cM prog 83 b5) (1,.val (pt a8 0),c1),qS 83 a8 0 (.agg ⟨[i64 (n:Int),pt a1 0]⟩) c1 a0,qL 83 a8 0 (aB.mk a0.blks a0.next a0.hide []) (.agg ⟨[i64 (n:Int),pt a1 0]⟩),qC 60 [.agg ⟨[i64 (n:Int),pt a1 0]⟩] (aB.mk a0.blks a0.next a0.hide []) (.slice c3 (dN (jA n l) n).length c4) a3,qL 83 a8 0 (aB.mk a3.blks a3.next (aV 0 [⟨1,1,a0.next,a3.next⟩,⟨0,1,a0.next,a0.next⟩]++a0.hide) a3.log) (.agg ⟨[i64 (n:Int),pt a1 0]⟩),qT (Nat.blt a8 a0.next),qC 59 [.slice c3 (dN (jA n l) n).length c4,.func (.func 61) ⟨[.agg ⟨[i64 (n:Int),pt a1 0]⟩]⟩ ⟨[]⟩] (aB.mk a3.blks a3.next a0.hide a3.log) (.slice b7 (bW n l).length b8) a2,qT (cZ [a8] a2.log)]):=by kernel_rfl
 have i3:aB.mk a0.blks a0.next a0.hide []=b6:=a4.symm
 have i4:=pT ((b2).hide.trans (c2).hide.symm)
 have i5:=Gs 0 [⟨1,1,a0.next,a3.next⟩,⟨0,1,a0.next,a0.next⟩] ((b2).hide.trans (c2).hide.symm)
 have i6:=Dr (L:=(a2.log++a0.log)) ((b2).hide.trans (e7).hide.symm)
 have i7:(aB.mk a2.blks a2.next a2.hide (a2.log++a0.log))=b0:=a7.symm
 try rw[i3] at a5
 try rw[i4] at a5
 try rw[i5] at a5
 try rw[i6] at a5
 try rw[i7] at a5
 exact⟨.slice b7 (bW n l).length b8,b0,Ev.told_tmp aG aF Tryz.func27 aAF (by kernel_rfl) rK27 (fun B=>lV (gH 58 Q58 (gH 59 Q59 (gH 60 Q60 (gL _))))) (fun _ _=>rfl) a5 (hk (bN (by rw[<-g9,<-h0];kernel_rfl) xAc) (hk (lA ⟨zB,uV⟩ g5 rfl) (hk (aK rfl h9 h4 g8) (hk (bN (by rw[<-a9,<-c5];kernel_rfl) xAc) (hk (dB i2) (hk (lA ⟨Nu,Fe⟩ f1 rfl) (hk (aK rfl i0 h5 e8) (hk (lA ⟨Nu,Fe⟩ (bV.2 ⟨dC (by simp;omega),f2⟩) rfl) (hk (lG a6) (hk (aK rfl i1 h6 e9) (hk (eA (by rw[d9];simp<;>omega)) hn))))))))))),g7,d5,Gk (R:=aH) g3 (by intro id hh;simp only [bR] at hh;omega)⟩
abbrev Q27:=FC (gN (sZ mN) fun x=>fC (x.1:Int) x.2=true) (iE aH) (fun x=>bW x.1 x.2)
theorem con27{x:Nat×List E4}{lv:List Value}{M:aB}(hM:aA M)(h:(gN (sZ mN) fun x:Nat×List E4=>fC (x.1:Int) x.2=true) x lv M): ∃v M',kR prog [] 27 Q27 lv M v M':=by
 refine FC.con h ?_
 obtain⟨⟨g0,rfl,k0⟩,a0⟩:=h
 obtain⟨n,l⟩:=x
 obtain⟨_,rfl,hl⟩:=k0
 obtain⟨a,c,rfl⟩:=aJ.form hl
 obtain⟨v,M',h1,h2,_,h3⟩:=Rm n a c l hM hl a0 (Lp a0) (by have:=(fY a0).2.1;simp only at this⊢;omega)
 exact⟨v,M',h1,h2,h3⟩
open Tryz
theorem r12n(bb o m c a0 o2 c2 i:Nat)(x y:Int){M:aB}{M0:aB}(X0:Ext M0 M)(a1:(decide ((i:Int)<(m:Int)))=true)(a4:(x==y)=true)(a2:bA prog 3 ⟨bb,o+((i:Int):Int).toNat*1,none⟩ M0=some (i64 x))(a3:bA prog 3 ⟨a0,o2+((i:Int):Int).toNat*1,none⟩ M0=some (i64 y)): ∃T1,Rd prog [] (q19.loopAt 0) Tryz.f19.ntmps (fr [(0,(aC bb o m c)),(1,(aC a0 o2 m c2)),(5,(i64 (i:Int)))]) M .normal T1 M/\ [0,1,5].map T1.get= [some (aC bb o m c),some (aC a0 o2 m c2),some (i64 (IntKind.wrap .i64 ((i:Int)+(1:Int))))]:=by
 exact Rd.told (tb:=[]) (n:=60) (F:=[aQ 8,aQ 14,aR 16 (i64 x),aQ 22,aR 24 (i64 y),aO 27]) aG aF (aI prog) (fun _ _=>rfl) (by kernel_rfl) (hk (bT a1) (hk (qI (i:Int) m (by omega) (by simp at a1;omega)) (hk (lD (aN X0 a2)) (hk (qI (i:Int) m (by omega) (by simp at a1;omega)) (hk (lD (aN X0 a3)) (hk (bF (x:=!(x==y)) (by rw[a4];rfl)) hn))))))
theorem r12r(bb o m c a3 o2 c2 i:Nat)(x y:Int){M:aB}{M0:aB}(X0:Ext M0 M)(a0:(decide ((i:Int)<(m:Int)))=true)(a4:(x==y)=false)(a1:bA prog 3 ⟨bb,o+((i:Int):Int).toNat*1,none⟩ M0=some (i64 x))(a2:bA prog 3 ⟨a3,o2+((i:Int):Int).toNat*1,none⟩ M0=some (i64 y)): ∃T1,Rd prog [] (q19.loopAt 0) Tryz.f19.ntmps (fr [(0,(aC bb o m c)),(1,(aC a3 o2 m c2)),(5,(i64 (i:Int)))]) M .ret T1 M/\ [4].map T1.get= [some (.bool false)]:=by
 exact Rd.told (tb:=[]) (n:=60) (F:=[aQ 8,aQ 14,aR 16 (i64 x),aQ 22,aR 24 (i64 y),aQ 27]) aG aF (aI prog) (fun _ _=>rfl) (by kernel_rfl) (hk (bT a0) (hk (qI (i:Int) m (by omega) (by simp at a0;omega)) (hk (lD (aN X0 a1)) (hk (qI (i:Int) m (by omega) (by simp at a0;omega)) (hk (lD (aN X0 a2)) (hk (bT (x:=!(x==y)) (by rw[a4];rfl)) hn))))))
theorem r12x(a:Option Addr)(m c i:Nat)(V2:Value){M:aB}(a1:a.isNone=true->m=0/\c=0)(a0:(decide ((i:Int)<(m:Int)))=false): ∃T1,Rd prog [] (q19.loopAt 0) Tryz.f19.ntmps (fr [(0,(.slice a m c)),(1,V2),(5,(i64 (i:Int)))]) M (.exit 0) T1 M/\ [].map T1.get= []:=by
 exact Rd.told (tb:=[]) (n:=60) (F:=[aQ 5,aO 8]) aG aF (aI prog) (fun _ _=>rfl) (by kernel_rfl) (hk (lN a1) (hk (bF a0) hn))
theorem Tn{a a2:Option Addr}{c c2:Nat}{l k:List Int}{M:aB}(hM:aA M)(hs:aH l (.slice a l.length c) M)(a3:aH k (.slice a2 l.length c2) M):
  ∃e O M',bL prog [] (q19.loopAt 0) Tryz.f19.ntmps (fr [(0,.slice a l.length c),(1,.slice a2 l.length c2),(5,i64 ((0:Nat):Int))]) M e (fr O) M'/\Ext M M'/\aA M'/\((e= .exit 0/\O= []/\l=k)\/(e= .ret/\O= [(4,.bool false)]/\l≠k)):=by
 have hlen:=hs.len
 have a6:l.length=k.length:=aJ.len_eq a3
 refine bL.forE (σ:=Unit) (n:=l.length) (Inv:=fun i _ M1=>Ext M M1/\aA M1/\l.take i=k.take i)
  (F:=fun i _=> [(0,.slice a l.length c),(1,.slice a2 l.length c2),(5,i64 ((i:Nat):Int))])
  (Post:=fun e O M'=>Ext M M'/\aA M'/\((e= .exit 0/\O= []/\l=k)\/(e= .ret/\O= [(4,.bool false)]/\l≠k))) ?_ ?_ l.length 0 (by omega) (s:=()) ⟨Ext.refl M,hM,rfl⟩
 ·rintro i _ M1 hi ⟨X,a1,hall⟩
  obtain⟨bb,o,rfl,_⟩:=bU hs (by omega)
  obtain⟨a4,o2,rfl,_⟩:=bU a3 (by omega)
  have ht:l[i]?=some l[i]:=xAe hi
  have a7:k[i]?=some k[i]:=xAe (by omega)
  have a5:=iX (P:=prog) (ty:=3) hs ht rfl bQ
  have a0:=iX (P:=prog) (ty:=3) a3 a7 rfl bQ
  by_cases hf:l[i]=k[i]
  ·obtain⟨T1,h1,h2⟩:=r12n bb o l.length c a4 o2 c2 i l[i] k[i] (M:=M1) X (xAb (by omega)) (by simp [hf]) a5 a0
   rw[bD (by omega)] at h2
   refine .inl ⟨(),T1,M1,h1,h2,X,a1,?_⟩
   rw[List.take_succ_eq_append_getElem hi,List.take_succ_eq_append_getElem (by omega),hall,hf]
  ·obtain⟨T1,h1,h2⟩:=r12r bb o l.length c a4 o2 c2 i l[i] k[i] (M:=M1) X (xAb (by omega)) (by simp [hf]) a5 a0
   refine .inr ⟨_,[(4,.bool false)],T1,M1,h1,by simp,h2,X,a1,.inr ⟨rfl,rfl,fun e=>hf ?_⟩⟩
   subst e;rfl
 ·rintro _ M1 ⟨X,a1,hall⟩
  obtain⟨T1,h1,h2⟩:=r12x a l.length c l.length (.slice a2 l.length c2) (M:=M1) hs.ln (xAa (by omega))
  refine⟨_,[],T1,M1,h1,by simp,h2,X,a1,.inl ⟨rfl,rfl,?_⟩⟩
  rw[List.take_length,a6,List.take_length] at hall
  exact hall
theorem Tp{a a2:Option Addr}{c c2:Nat}{l k:List Int}{M:aB}(hM:aA M)(hs:aH l (.slice a l.length c) M)(a0:aH k (.slice a2 l.length c2) M)(h:decide (l=k)=true):
  ∃M',bL prog [] (q19.loopAt 0) Tryz.f19.ntmps (fr [(0,.slice a l.length c),(1,.slice a2 l.length c2),(5,i64 ((0:Nat):Int))]) M (.exit 0) (fr []) M'/\Ext M M'/\aA M':=by
 obtain⟨e,O,M',h1,h2,h3,h4|h4⟩:=Tn hM hs a0
 ·obtain⟨rfl,rfl,_⟩:=h4;exact⟨M',h1,h2,h3⟩
 ·exact absurd (of_decide_eq_true h) h4.2.2
theorem To{a a2:Option Addr}{c c2:Nat}{l k:List Int}{M:aB}(hM:aA M)(hs:aH l (.slice a l.length c) M)(a0:aH k (.slice a2 l.length c2) M)(h:decide (l=k)=false):
  ∃M',bL prog [] (q19.loopAt 0) Tryz.f19.ntmps (fr [(0,.slice a l.length c),(1,.slice a2 l.length c2),(5,i64 ((0:Nat):Int))]) M .ret (fr [(4,.bool false)]) M'/\Ext M M'/\aA M':=by
 obtain⟨e,O,M',h1,h2,h3,h4|h4⟩:=Tn hM hs a0
 ·exact absurd h4.2.2 (of_decide_eq_false h)
 ·obtain⟨rfl,rfl,_⟩:=h4;exact⟨M',h1,h2,h3⟩
theorem aA9:Tryz.f19.results= #[.tmp 4]:=by kernel_rfl
theorem w12Et(a1:Option Addr)(c1:Nat)(a2:Option Addr)(c2:Nat)(l k:List Int){M:aB}(hM:aA M)(h1:aH l (.slice a1 l.length c1) M)(h2:aH k (.slice a2 l.length c2) M)(a0:(decide (l=k))=true): ∃v_ M',Ev prog [] 19 [.slice a1 l.length c1,.slice a2 l.length c2] M v_ M'/\Ext M M'/\aA M'/\v_=(.bool true):=by
 obtain⟨M1,a3,E3,a4⟩:=Tp hM (AP.Ext (R:=aH) h1 (Ext.refl M)) (AP.Ext (R:=aH) h2 (Ext.refl M)) a0
 have X6:=(Ext.refl M).trans E3
 exact⟨.bool true,M1,Ev.told_tmp (tb:=[0]) (n:=60) (F:=[aQ 5,aQ 9,aO 12,.blk 15 [0,1,5] .normal (fr []) M1]) aG aF Tryz.func19 Oq (by kernel_rfl) aA9 (fun B=>wR (gL B) 0 a3) (fun _ h=>bZ h) (by kernel_rfl) (hk (lN h1.ln) (hk (lN h2.ln) (hk (bF (x:=!((l.length:Int)==(l.length:Int))) (by first|simp_all|(simp;omega))) (hq (.blk 0 (.loop (q19.loopAt 0)) Tryz.f19.ntmps [0,1,5] [some (.slice a1 l.length c1),some (.slice a2 l.length c2),some (i64 0)] M .normal (fr []) M1) (fB rfl) hn)))),X6,a4,rfl⟩
theorem w12Ef(a1:Option Addr)(c1:Nat)(a2:Option Addr)(c2:Nat)(l k:List Int){M:aB}(hM:aA M)(h1:aH l (.slice a1 l.length c1) M)(h2:aH k (.slice a2 l.length c2) M)(a0:(decide (l=k))=false): ∃v_ M',Ev prog [] 19 [.slice a1 l.length c1,.slice a2 l.length c2] M v_ M'/\Ext M M'/\aA M'/\v_=(.bool false):=by
 obtain⟨M1,a3,E3,a4⟩:=To hM (AP.Ext (R:=aH) h1 (Ext.refl M)) (AP.Ext (R:=aH) h2 (Ext.refl M)) a0
 have X6:=(Ext.refl M).trans E3
 exact⟨.bool false,M1,Ev.told_tmp (tb:=[0]) (n:=60) (F:=[aQ 5,aQ 9,aO 12,.blk 15 [0,1,5] .ret (fr [(4,(.bool false))]) M1]) aG aF Tryz.func19 Oq (by kernel_rfl) aA9 (fun B=>wR (gL B) 0 a3) (fun _ h=>bZ h) (by kernel_rfl) (hk (lN h1.ln) (hk (lN h2.ln) (hk (bF (x:=!((l.length:Int)==(l.length:Int))) (by first|simp_all|(simp;omega))) (hq (.blk 0 (.loop (q19.loopAt 0)) Tryz.f19.ntmps [0,1,5] [some (.slice a1 l.length c1),some (.slice a2 l.length c2),some (i64 0)] M .ret (fr [(4,(.bool false))]) M1) (fB rfl) hn)))),X6,a4,rfl⟩
theorem w12D(a1:Option Addr)(c1:Nat)(a2:Option Addr)(c2:Nat)(l k:List Int){M:aB}(hM:aA M)(h1:aH l (.slice a1 l.length c1) M)(h2:aH k (.slice a2 k.length c2) M)(a0:((l.length:Int)==(k.length:Int))=false): ∃v_ M',Ev prog [] 19 [.slice a1 l.length c1,.slice a2 k.length c2] M v_ M'/\Ext M M'/\aA M'/\v_=(.bool false):=by
 exact⟨.bool false,M,Ev.told_tmp (tb:=[]) (n:=60) (F:=[aQ 5,aQ 9,aQ 12]) aG aF Tryz.func19 Oq (by kernel_rfl) aA9 (aI prog) (fun _ _=>rfl) (by kernel_rfl) (hk (lN h1.ln) (hk (lN h2.ln) (hk (bT (x:=!((l.length:Int)==(k.length:Int))) (by rw[a0];rfl)) hn))),Ext.refl M,hM,rfl⟩
abbrev Q19:=FC (lX aH aH) (plain pB) (fun x=>decide (x.1=x.2))
theorem con19{x:List Int×List Int}{lv:List Value}{M:aB}(hM:aA M)(h:(lX aH aH) x lv M): ∃v M',kR prog [] 19 Q19 lv M v M':=by
 refine FC.con h ?_
 obtain⟨g0,g1,rfl,k0,k1⟩:=h
 obtain⟨l,k⟩:=x
 obtain⟨a1,c1,rfl⟩:=aJ.form k0
 obtain⟨a2,c2,rfl⟩:=aJ.form k1
 simp only at k0 k1⊢
 by_cases hl:k.length=l.length
 ·rw[hl] at k1⊢
  cases hd:decide (l=k) with
  |true=>
   obtain⟨v,M',h1,h2,_,h3⟩:=w12Et a1 c1 a2 c2 l k hM k0 k1 hd
   exact⟨v,M',h1,h2,h3⟩
  |false=>
   obtain⟨v,M',h1,h2,_,h3⟩:=w12Ef a1 c1 a2 c2 l k hM k0 k1 hd
   exact⟨v,M',h1,h2,h3⟩
 ·obtain⟨v,M',h1,h2,_,h3⟩:=w12D a1 c1 a2 c2 l k hM k0 k1 (by simp;omega)
  rw[show decide (l=k)=false from xAa fun e=>hl (by rw[e])]
  exact⟨v,M',h1,h2,h3⟩
open Tryz
theorem zP(p r6 bb o m c i:Nat)(N md k:Int)(S:Value)(l:List E4){M M0:aB}(hM:aA M)(X0:Ext M0 M)(np:M0.next<=p)(gp:M.get p=some ⟨[i64 N,S],26,2,0,true⟩)(A0:M.get r6=some ⟨[i64 0,eW],26,2,0,true⟩)(j7:p≠r6)(B6:(decide (0<N)&&decide (N<2^62))=true)(hA:cR 46 4 M0 [p,r6] l.length ((l.map cD).flatten) S M)(k3:l.length<1073741824)(g8:(decide ((i:Int)<(m:Int)))=true)(x0:(decide ((i:Int)<(40:Int)))=true): (∀(cc2:((aD md 3)==(0:Int))=true)(cc3:((aD k 31)==(0:Int))=true)(hld0:bA prog 3 ⟨bb,o+((i:Int):Int).toNat*1,none⟩ M0=some (i64 k)),∃T1 M' g0,Rd prog [] (q9.loopAt 0) Tryz.f9.ntmps (fr [(1,(aC bb o m c)),(2,(i64 md)),(6,(pt r6 0)),(7,(pt p 0)),(8,(i64 (i:Int)))]) M .normal T1 M'/\ [1,2,6,7,8].map T1.get= [some (aC bb o m c),some (i64 md),some (pt r6 0),some (pt p 0),some (i64 (IntKind.wrap .i64 ((i:Int)+(1:Int))))]/\Ext M0 M'/\aA M'/\M'.get p=some ⟨[i64 N,g0],26,2,0,true⟩/\M'.get r6=some ⟨[i64 0,eW],26,2,0,true⟩/\cR 46 4 M0 [p,r6] (l.length+1) ((l.map cD).flatten++ [i64 (aD k N),i64 (aD (aM k 13) N),i64 (aD (IntKind.wrap .i64 ((aD k N)+(aD (aM k 13) N))) 2),i64 (IntKind.wrap .i64 ((2147483647:Int)-(aD (aM k 31) 3)))]) g0 M')/\(∀(cc2:((aD md 3)==(0:Int))=true)(cc3:((aD k 31)==(0:Int))=false)(hld0:bA prog 3 ⟨bb,o+((i:Int):Int).toNat*1,none⟩ M0=some (i64 k)),∃T1 M' f8,Rd prog [] (q9.loopAt 0) Tryz.f9.ntmps (fr [(1,(aC bb o m c)),(2,(i64 md)),(6,(pt r6 0)),(7,(pt p 0)),(8,(i64 (i:Int)))]) M .normal T1 M'/\ [1,2,6,7,8].map T1.get= [some (aC bb o m c),some (i64 md),some (pt r6 0),some (pt p 0),some (i64 (IntKind.wrap .i64 ((i:Int)+(1:Int))))]/\Ext M0 M'/\aA M'/\M'.get p=some ⟨[i64 N,f8],26,2,0,true⟩/\M'.get r6=some ⟨[i64 0,eW],26,2,0,true⟩/\cR 46 4 M0 [p,r6] (l.length+1) ((l.map cD).flatten++ [i64 (aD k N),i64 (aD (aM k 13) N),i64 (aD (IntKind.wrap .i64 ((aD k N)+(aD (aM k 13) N))) 2),i64 (aD (aM k 900) 9)]) f8 M')/\(∀(cc2:((aD md 3)==(0:Int))=false)(cc3:((aD md 3)==(1:Int))=true)(cc4:((aD k 31)==(0:Int))=true)(hld0:bA prog 3 ⟨bb,o+((i:Int):Int).toNat*1,none⟩ M0=some (i64 k)),∃T1 M' g1,Rd prog [] (q9.loopAt 0) Tryz.f9.ntmps (fr [(1,(aC bb o m c)),(2,(i64 md)),(6,(pt r6 0)),(7,(pt p 0)),(8,(i64 (i:Int)))]) M .normal T1 M'/\ [1,2,6,7,8].map T1.get= [some (aC bb o m c),some (i64 md),some (pt r6 0),some (pt p 0),some (i64 (IntKind.wrap .i64 ((i:Int)+(1:Int))))]/\Ext M0 M'/\aA M'/\M'.get p=some ⟨[i64 N,g1],26,2,0,true⟩/\M'.get r6=some ⟨[i64 0,eW],26,2,0,true⟩/\cR 46 4 M0 [p,r6] (l.length+1) ((l.map cD).flatten++ [i64 (aD k N),i64 (aD (aM k 13) N),i64 (aD (IntKind.wrap .i64 ((aD (aM k 170) 5)*(aD k N))) 3),i64 (IntKind.wrap .i64 ((2147483647:Int)-(aD (aM k 31) 3)))]) g1 M')/\(∀(cc2:((aD md 3)==(0:Int))=false)(cc3:((aD md 3)==(1:Int))=true)(cc4:((aD k 31)==(0:Int))=false)(hld0:bA prog 3 ⟨bb,o+((i:Int):Int).toNat*1,none⟩ M0=some (i64 k)),∃T1 M' b3,Rd prog [] (q9.loopAt 0) Tryz.f9.ntmps (fr [(1,(aC bb o m c)),(2,(i64 md)),(6,(pt r6 0)),(7,(pt p 0)),(8,(i64 (i:Int)))]) M .normal T1 M'/\ [1,2,6,7,8].map T1.get= [some (aC bb o m c),some (i64 md),some (pt r6 0),some (pt p 0),some (i64 (IntKind.wrap .i64 ((i:Int)+(1:Int))))]/\Ext M0 M'/\aA M'/\M'.get p=some ⟨[i64 N,b3],26,2,0,true⟩/\M'.get r6=some ⟨[i64 0,eW],26,2,0,true⟩/\cR 46 4 M0 [p,r6] (l.length+1) ((l.map cD).flatten++ [i64 (aD k N),i64 (aD (aM k 13) N),i64 (aD (IntKind.wrap .i64 ((aD (aM k 170) 5)*(aD k N))) 3),i64 (aD (aM k 900) 9)]) b3 M')/\(∀(cc2:((aD md 3)==(0:Int))=false)(cc3:((aD md 3)==(1:Int))=false)(cc4:((aD k 31)==(0:Int))=true)(hld0:bA prog 3 ⟨bb,o+((i:Int):Int).toNat*1,none⟩ M0=some (i64 k)),∃T1 M' b3,Rd prog [] (q9.loopAt 0) Tryz.f9.ntmps (fr [(1,(aC bb o m c)),(2,(i64 md)),(6,(pt r6 0)),(7,(pt p 0)),(8,(i64 (i:Int)))]) M .normal T1 M'/\ [1,2,6,7,8].map T1.get= [some (aC bb o m c),some (i64 md),some (pt r6 0),some (pt p 0),some (i64 (IntKind.wrap .i64 ((i:Int)+(1:Int))))]/\Ext M0 M'/\aA M'/\M'.get p=some ⟨[i64 N,b3],26,2,0,true⟩/\M'.get r6=some ⟨[i64 0,eW],26,2,0,true⟩/\cR 46 4 M0 [p,r6] (l.length+1) ((l.map cD).flatten++ [i64 (aD k N),i64 (aD (aM k 13) N),i64 (aD (aM k 170) 5),i64 (IntKind.wrap .i64 ((2147483647:Int)-(aD (aM k 31) 3)))]) b3 M')/\(∀(cc2:((aD md 3)==(0:Int))=false)(cc3:((aD md 3)==(1:Int))=false)(cc4:((aD k 31)==(0:Int))=false)(hld0:bA prog 3 ⟨bb,o+((i:Int):Int).toNat*1,none⟩ M0=some (i64 k)),∃T1 M' f7,Rd prog [] (q9.loopAt 0) Tryz.f9.ntmps (fr [(1,(aC bb o m c)),(2,(i64 md)),(6,(pt r6 0)),(7,(pt p 0)),(8,(i64 (i:Int)))]) M .normal T1 M'/\ [1,2,6,7,8].map T1.get= [some (aC bb o m c),some (i64 md),some (pt r6 0),some (pt p 0),some (i64 (IntKind.wrap .i64 ((i:Int)+(1:Int))))]/\Ext M0 M'/\aA M'/\M'.get p=some ⟨[i64 N,f7],26,2,0,true⟩/\M'.get r6=some ⟨[i64 0,eW],26,2,0,true⟩/\cR 46 4 M0 [p,r6] (l.length+1) ((l.map cD).flatten++ [i64 (aD k N),i64 (aD (aM k 13) N),i64 (aD (aM k 170) 5),i64 (aD (aM k 900) 9)]) f7 M'):=by
 obtain⟨R1,k8⟩:=Jk M M []
 have X3:=Nk k8 X0
 have Q0:R1.log= []:=by rw[k8]
 have P9:=Jl k8 hM
 have k6:=aB.lt_of_get gp
 have g6:=cF k8 gp
 have ltr6M:=aB.lt_of_get A0
 have g7:=cF k8 A0
 have A8:=hA.same (M':=R1) (fun id b h=>by rw[k8];exact h)
 obtain⟨w9,Q3,a0,x5,x1,u0,C2,I5,N6⟩:=aL (x:=(k,N)) P9 jV (⟨⟨_,_,rfl,rfl,rfl⟩,B6⟩)
 have N0:=A8.ext C2
 have v8:=C2.old g6
 have O5:=C2.old g7
 have O4:w9=(i64 (aD k N)):=N6
 subst O4
 have J4:a0.log= []:=by rw[<-u0];exact Q0
 have j6:=X3.trans C2
 obtain⟨w24,Q4,a2,x6,x2,u2,C3,I6,N7⟩:=aL (x:=((aM k 13),N)) I5 jV (⟨⟨_,_,rfl,rfl,rfl⟩,B6⟩)
 have N1:=N0.ext C3
 have O6:=C3.old v8
 have O7:=C3.old O5
 have G4:w24=(i64 (aD (aM k 13) N)):=N7
 subst G4
 have J5:a2.log= []:=by rw[<-u2];exact J4
 have t5:=j6.trans C3
 obtain⟨Q1,Q5,a3,x7,x3,u3,C4,I7,N8⟩:=aL (x:=((aM k 170),5)) I6 jV (⟨⟨_,_,rfl,rfl,rfl⟩,rfl⟩)
 have N2:=N1.ext C4
 have O8:=C4.old O6
 have O9:=C4.old O7
 have G5:Q1=(i64 (aD (aM k 170) 5)):=N8
 subst G5
 have J6:a3.log= []:=by rw[<-u3];exact J5
 have t6:=t5.trans C4
 obtain⟨Q2,Q6,a7,x8,x4,u4,C5,I8,N9⟩:=aL (x:=((aM k 900),9)) I7 jV (⟨⟨_,_,rfl,rfl,rfl⟩,rfl⟩)
 have N3:=N2.ext C5
 have L2:=C5.old O8
 have L3:=C5.old O9
 have G6:Q2=(i64 (aD (aM k 900) 9)):=N9
 subst G6
 have J7:a7.log= []:=by rw[<-u4];exact J6
 have L1:=t6.trans C5
 obtain⟨b1,a4,e5,i7,P0,C6,I9⟩:=bC I8 ⟨[i64 0,i64 0,i64 0,i64 0],46,4,0,true⟩
 have i1:M0.next<=b1:=(lQ e5 L1:)
 have c4:=fJ L2 e5
 have b6:=fJ L3 e5
 have N4:=N3.new e5 C6
 have P1:=C6.old L2
 have P2:=C6.old L3
 have J8:a4.log= []:=by rw[<-i7];exact J7
 have t7:=L1.trans C6
 obtain⟨a6,x9,P3,v9,t8,J0,J9⟩:=aZ (o:=0) (v:=(.agg ⟨[i64 (aD k N),i64 (aD (aM k 13) N),i64 (aD (aM k 170) 5),i64 (aD (aM k 900) 9)]⟩)) (new:= [i64 (aD k N),i64 (aD (aM k 13) N),i64 (aD (aM k 170) 5),i64 (aD (aM k 900) 9)]) t7 i1 I9 nT P0 rfl rfl (Nat.zero_le _) (xAd rfl) rfl
 have N5:=N4.keep (by simp) (fun id h _=>v9 id h)
 have P4:=(v9 _ c4).trans P1
 have P5:=(v9 _ b6).trans P2
 have k5:a6.log= [b1]:=by rw[J9,J8]
 obtain⟨p3,c6⟩: ∃m:aB,m=(aB.mk a6.blks a6.next a6.hide (a6.log++M.log)):=⟨_,rfl⟩
 have O3:Ext M0 p3:=by rw[c6];exact Ext.join (X0) (t8)
 have J1:aA p3:=by rw[c6];exact J0
 have P6:=cF c6 P4
 have P7:=cF c6 P5
 have P8:=cF c6 P3
 have C7:=N5.same (M':=p3) (fun id b h=>by rw[c6];exact h)
 obtain⟨K8,O0,b0,k7,k4,j8,l6,f2,D9⟩:=aL (x:=(md,3)) J1 jV (⟨⟨_,_,rfl,rfl,rfl⟩,rfl⟩)
 have j3:=C7.ext l6
 have j9:=l6.old P6
 have k0:=l6.old P7
 have e6:=l6.old P8
 have y8:K8=(i64 (aD md 3)):=D9
 subst y8
 have j4:=O3.trans l6
 refine⟨?_,?_,?_,?_,?_,?_⟩
 ·intro cc2 cc3 hld0
  obtain⟨e4,m4,a8,e3,e2,d4,a5,b8,d2⟩:=aL (x:=((IntKind.wrap .i64 ((aD k N)+(aD (aM k 13) N))),2)) f2 jV (⟨⟨_,_,rfl,rfl,rfl⟩,rfl⟩)
  have c8:=j3.ext a5
  have d6:=a5.old j9
  have d7:=a5.old k0
  have b9:=a5.old e6
  have b7:e4=(i64 (aD (IntKind.wrap .i64 ((aD k N)+(aD (aM k 13) N))) 2)):=d2
  subst b7
  have d3:=j4.trans a5
  obtain⟨i4,w2,u5,e0,t0,n1,B9⟩:=aZ (o:=2) (v:=(i64 (aD (IntKind.wrap .i64 ((aD k N)+(aD (aM k 13) N))) 2))) (new:= [i64 (aD k N),i64 (aD (aM k 13) N),i64 (aD (IntKind.wrap .i64 ((aD k N)+(aD (aM k 13) N))) 2),i64 (aD (aM k 900) 9)]) d3 i1 b8 Jj b9 rfl rfl (Nat.zero_le _) (xAd rfl) rfl
  have r9:=c8.keep (by simp) (fun id h _=>e0 id h)
  have u6:=(e0 _ c4).trans d6
  have u7:=(e0 _ b6).trans d7
  obtain⟨w8,E2,f3,w1,w0,u1,d0,n2,s2⟩:=aL (x:=(k,31)) n1 jV (⟨⟨_,_,rfl,rfl,rfl⟩,rfl⟩)
  have s0:=r9.ext d0
  have m9:=d0.old u6
  have q1:=d0.old u7
  have c7:=d0.old u5
  have m8:w8=(i64 (aD k 31)):=s2
  subst m8
  have p4:=t0.trans d0
  obtain⟨p0,y0,c0,o0,n9,m6,b4,h6,m3⟩:=aL (x:=((aM k 31),3)) n2 jV (⟨⟨_,_,rfl,rfl,rfl⟩,rfl⟩)
  have l1:=s0.ext b4
  have i8:=b4.old m9
  have h5:=b4.old q1
  have c3:=b4.old c7
  have h3:p0=(i64 (aD (aM k 31) 3)):=m3
  subst h3
  have j5:=p4.trans b4
  obtain⟨f6,w6,v2,n7,y2,A9,M4⟩:=aZ (o:=3) (v:=(i64 (IntKind.wrap .i64 ((2147483647:Int)-(aD (aM k 31) 3))))) (new:= [i64 (aD k N),i64 (aD (aM k 13) N),i64 (aD (IntKind.wrap .i64 ((aD k N)+(aD (aM k 13) N))) 2),i64 (IntKind.wrap .i64 ((2147483647:Int)-(aD (aM k 31) 3)))]) j5 i1 h6 Jj c3 rfl rfl (Nat.zero_le _) (xAd rfl) rfl
  have l3:=l1.keep (by simp) (fun id h _=>n7 id h)
  have d8:=(n7 _ c4).trans i8
  have e7:=(n7 _ b6).trans h5
  obtain⟨p7,g9,f0,y6,z6,m1,n4⟩:=bC A9 ⟨[i64 (aD k N),i64 (aD (aM k 13) N),i64 (aD (IntKind.wrap .i64 ((aD k N)+(aD (aM k 13) N))) 2),i64 (IntKind.wrap .i64 ((2147483647:Int)-(aD (aM k 31) 3)))],46,4,0,true⟩
  have M1:M0.next<=p7:=(lQ f0 y2:)
  have G0:=fJ d8 f0
  have dr6b181:=fJ e7 f0
  have db69b181:=fJ v2 f0
  have D3:=l3.new f0 m1
  have z7:=m1.old d8
  have q2:=m1.old e7
  have H6:=m1.old v2
  have F2:=y2.trans m1
  obtain⟨q7,g0,s7,K4,F3,B2,l4,r2,L6⟩:=fX (P:=prog) (sT:=24) (xT:=24) (y:=32) (c:=2) D3 F2 n4 (by intro x hx;simp only [List.mem_cons,List.not_mem_nil,or_false] at hx;rcases hx with rfl|rfl|rfl|rfl<;>first|exact aB.lt_of_get z6|exact aB.lt_of_get H6|exact aB.lt_of_get z7|exact aB.lt_of_get q2) (by kernel_rfl) (by kernel_rfl) (by kernel_rfl) (by kernel_rfl) (by decide) (by decide) rfl k3 z6 (o:=0) (new:= [i64 (aD k N),i64 (aD (aM k 13) N),i64 (aD (IntKind.wrap .i64 ((aD k N)+(aD (aM k 13) N))) 2),i64 (IntKind.wrap .i64 ((2147483647:Int)-(aD (aM k 31) 3)))]) rfl rfl rfl
  have H7:=r2 _ _ z7 (by simp)
  have q3:=r2 _ _ q2 (by simp)
  obtain⟨p1,K5,H9,r7,F5,B3,M8⟩:=aZ (o:=1) (v:=g0) (new:= [i64 N,g0]) F3 np B2 Qg H7 (by rw[cJ l4.isCell];rfl) (by rw[cJ l4.isCell];show(isCell _&&true)=true;rw[l4.isCell];rfl) (Nat.zero_le _) (xAd rfl) (by rw[cJ l4.isCell];rfl)
  have D7:=l4.keep (by simp) (fun id h _=>r7 id h)
  have I0:=(r7 _ (Ne.symm j7)).trans q3
  have a1:oR prog [] 100 Tryz.f9 (q9.loopAt 0) [(1,(aC bb o m c)),(2,(i64 md)),(6,(pt r6 0)),(7,(pt p 0)),(8,(i64 (i:Int)))] M [aQ 10,aQ 12,aQ 15,aQ 16,aQ 22,aR 24 (i64 k),aR 32 (i64 N),bJ 34 (i64 (aD k N)) a0,aR 42 (i64 N),bJ 44 (i64 (aD (aM k 13) N)) a2,bJ 50 (i64 (aD (aM k 170) 5)) a3,bJ 56 (i64 (aD (aM k 900) 9)) a7,bJ 60 (pt b1 0) (aB.mk a4.blks a4.next (aV 0 [⟨14,1,a3.next,a7.next⟩,⟨11,1,a2.next,a3.next⟩,⟨8,1,a0.next,a2.next⟩,⟨3,1,M.next,a0.next⟩,⟨2,1,M.next,M.next⟩]++M.hide) a4.log),jE 62 a6,bJ 66 (i64 (aD md 3)) b0,aQ 69,aR 73 (i64 (aD k N)),aR 77 (i64 (aD (aM k 13) N)),bJ 81 (i64 (aD (IntKind.wrap .i64 ((aD k N)+(aD (aM k 13) N))) 2)) a8,jE 85 i4,bJ 89 (i64 (aD k 31)) f3,aQ 92,bJ 98 (i64 (aD (aM k 31) 3)) c0,jE 104 f6,aR 108 S,aR 110 (.agg ⟨[i64 (aD k N),i64 (aD (aM k 13) N),i64 (aD (IntKind.wrap .i64 ((aD k N)+(aD (aM k 13) N))) 2),i64 (IntKind.wrap .i64 ((2147483647:Int)-(aD (aM k 31) 3)))]⟩),bJ 112 (aC p7 0 1 2) g9,.at 114 ((bif q7 then 1 else 2),.val g0,s7),jE 118 p1] [1,2,6,7,8]=some (.normal,[some (aC bb o m c),some (i64 md),some (pt r6 0),some (pt p 0),some (i64 (IntKind.wrap .i64 ((i:Int)+(1:Int))))],p1,[qT (decide ((i:Int)<(m:Int))),qT (decide ((i:Int)<(m:Int))),qT (decide ((i:Int)<(m:Int))),qT (decide ((i:Int)<(40:Int))),.q (.inb (i:Int) m) (eD true),qL 3 bb (o+((i:Int):Int).toNat*1) M (i64 k),qL 3 p 0 (aB.mk M.blks M.next M.hide []) (i64 N),qC 22 [i64 k,i64 N] (aB.mk M.blks M.next M.hide []) (i64 (aD k N)) a0,qL 3 p 0 (aB.mk a0.blks a0.next (aV 64 [⟨3,1,M.next,a0.next⟩,⟨2,1,M.next,M.next⟩]++M.hide) a0.log) (i64 N),qT (Nat.blt p M.next),qC 22 [i64 (aM k 13),i64 N] (aB.mk a0.blks a0.next M.hide a0.log) (i64 (aD (aM k 13) N)) a2,qC 22 [i64 (aM k 170),i64 5] (aB.mk a2.blks a2.next M.hide a2.log) (i64 (aD (aM k 170) 5)) a3,qC 22 [i64 (aM k 900),i64 9] (aB.mk a3.blks a3.next M.hide a3.log) (i64 (aD (aM k 900) 9)) a7,.eq (cM prog 46 (aB.mk a7.blks a7.next (aV 0 [⟨14,1,a3.next,a7.next⟩,⟨11,1,a2.next,a3.next⟩,⟨8,1,a0.next,a2.next⟩,⟨3,1,M.next,a0.next⟩,⟨2,1,M.next,M.next⟩]++M.hide) a7.log)) (1,.val (pt b1 0),(aB.mk a4.blks a4.next (aV 0 [⟨14,1,a3.next,a7.next⟩,⟨11,1,a2.next,a3.next⟩,⟨8,1,a0.next,a2.next⟩,⟨3,1,M.next,a0.next⟩,⟨2,1,M.next,M.next⟩]++M.hide) a4.log)),qS 46 b1 0 (.agg ⟨[i64 (aD k N),i64 (aD (aM k 13) N),i64 (aD (aM k 170) 5),i64 (aD (aM k 900) 9)]⟩) (aB.mk (aB.mk a4.blks a4.next (aV 0 [⟨14,1,a3.next,a7.next⟩,⟨11,1,a2.next,a3.next⟩,⟨8,1,a0.next,a2.next⟩,⟨3,1,M.next,a0.next⟩,⟨2,1,M.next,M.next⟩]++M.hide) a4.log).blks (aB.mk a4.blks a4.next (aV 0 [⟨14,1,a3.next,a7.next⟩,⟨11,1,a2.next,a3.next⟩,⟨8,1,a0.next,a2.next⟩,⟨3,1,M.next,a0.next⟩,⟨2,1,M.next,M.next⟩]++M.hide) a4.log).next M.hide (aB.mk a4.blks a4.next (aV 0 [⟨14,1,a3.next,a7.next⟩,⟨11,1,a2.next,a3.next⟩,⟨8,1,a0.next,a2.next⟩,⟨3,1,M.next,a0.next⟩,⟨2,1,M.next,M.next⟩]++M.hide) a4.log).log) a6,qT (cZ [p] a6.log),qC 22 [i64 md,i64 3] (aB.mk a6.blks a6.next M.hide (a6.log++M.log)) (i64 (aD md 3)) b0,qT ((aD md 3)==(0:Int)),qL 3 b1 0 b0 (i64 (aD k N)),qL 3 b1 1 b0 (i64 (aD (aM k 13) N)),qC 22 [i64 (IntKind.wrap .i64 ((aD k N)+(aD (aM k 13) N))),i64 2] b0 (i64 (aD (IntKind.wrap .i64 ((aD k N)+(aD (aM k 13) N))) 2)) a8,qS 3 b1 2 (i64 (aD (IntKind.wrap .i64 ((aD k N)+(aD (aM k 13) N))) 2)) a8 i4,qC 22 [i64 k,i64 31] i4 (i64 (aD k 31)) f3,qT ((aD k 31)==(0:Int)),qC 22 [i64 (aM k 31),i64 3] f3 (i64 (aD (aM k 31) 3)) c0,qS 3 b1 3 (i64 (IntKind.wrap .i64 ((2147483647:Int)-(aD (aM k 31) 3)))) c0 f6,qL 24 p 1 f6 S,qL 46 b1 0 f6 (.agg ⟨[i64 (aD k N),i64 (aD (aM k 13) N),i64 (aD (IntKind.wrap .i64 ((aD k N)+(aD (aM k 13) N))) 2),i64 (IntKind.wrap .i64 ((2147483647:Int)-(aD (aM k 31) 3)))]⟩),.eq (bH prog 24 1 [(0,(.agg ⟨[i64 (aD k N),i64 (aD (aM k 13) N),i64 (aD (IntKind.wrap .i64 ((aD k N)+(aD (aM k 13) N))) 2),i64 (IntKind.wrap .i64 ((2147483647:Int)-(aD (aM k 31) 3)))]⟩))] f6) (1,.val (aC p7 0 1 2),g9),.q (.append [24,24] S (aC p7 0 1 2) g9) ((bif q7 then 1 else 2),.val g0,s7),qS 24 p 1 g0 s7 p1]):=by cases q7<;>kernel_rfl
  dsimp only at a1
  have o2:aB.mk M.blks M.next M.hide []=R1:=k8.symm
  have o3:=pT ((X0).hide.trans (j6).hide.symm)
  have o4:=Gs 64 [⟨3,1,M.next,a0.next⟩,⟨2,1,M.next,M.next⟩] ((X0).hide.trans (j6).hide.symm)
  have o5:=pT ((X0).hide.trans (t5).hide.symm)
  have o6:=pT ((X0).hide.trans (t6).hide.symm)
  have o7:=pT ((X0).hide.trans (t7).hide.symm)
  have o8:=Dr (L:=(a6.log++M.log)) ((X0).hide.trans (t8).hide.symm)
  have o9:(aB.mk a6.blks a6.next a6.hide (a6.log++M.log))=p3:=c6.symm
  try rw[o2] at a1
  try rw[o3] at a1
  try rw[o4] at a1
  try rw[o5] at a1
  try rw[o6] at a1
  try rw[o7] at a1
  try rw[o8] at a1
  try rw[o9] at a1
  obtain⟨T1,h1,h2⟩:=Rd.told aG aF (fun B=>lV (gH 22 Xs (gL _))) (fun _ _=>rfl) a1 (hw (bT g8) (hk (bT g8) (hk (bT x0) (hk (dE (by omega) (by simp at g8;omega)) (hk (eO (aN X0 hld0)) (hk (lC bQ g6 rfl) (hk (aK rfl x5 x1 u0) (hk (lC bQ (bV.2 ⟨dC (by simp;omega),v8⟩) rfl) (hk (lG k6) (hk (aK rfl x6 x2 u2) (hk (aK rfl x7 x3 u3) (hk (aK rfl x8 x4 u4) (hk (bN (by rw[<-e5,<-i7];kernel_rfl) xAc) (hk (dB x9) (hk (eA (by rw[k5];simp<;>omega)) (hk (aK rfl k7 k4 j8) (hk (bT cc2) (hk (lC bQ e6 rfl) (hk (lC bQ e6 rfl) (hk (aK rfl e3 e2 d4) (hk (dB w2) (hk (aK rfl w1 w0 u1) (hk (bT cc3) (hk (aK rfl o0 n9 m6) (hk (dB w6) (hk (lC nL d8 rfl) (hk (lA ⟨tL,nT⟩ v2 rfl) (hk (bN (by rw[<-f0,<-y6];kernel_rfl) xAc) (hk (kB K4 (by cases q7<;>simp)) (hk (dB K5) hn))))))))))))))))))))))))))))))
  exact⟨T1,p1,g0,h1,h2,F5,B3,H9,I0,D7.less (by intro x hx;simp only [List.mem_cons,List.not_mem_nil,or_false] at hx;rcases hx with rfl|rfl<;>simp)⟩
 ·intro cc2 cc3 hld0
  obtain⟨e4,m4,a8,e3,e2,d4,a5,b8,d2⟩:=aL (x:=((IntKind.wrap .i64 ((aD k N)+(aD (aM k 13) N))),2)) f2 jV (⟨⟨_,_,rfl,rfl,rfl⟩,rfl⟩)
  have c8:=j3.ext a5
  have d6:=a5.old j9
  have d7:=a5.old k0
  have b9:=a5.old e6
  have b7:e4=(i64 (aD (IntKind.wrap .i64 ((aD k N)+(aD (aM k 13) N))) 2)):=d2
  subst b7
  have d3:=j4.trans a5
  obtain⟨i4,w2,u5,e0,t0,n1,B9⟩:=aZ (o:=2) (v:=(i64 (aD (IntKind.wrap .i64 ((aD k N)+(aD (aM k 13) N))) 2))) (new:= [i64 (aD k N),i64 (aD (aM k 13) N),i64 (aD (IntKind.wrap .i64 ((aD k N)+(aD (aM k 13) N))) 2),i64 (aD (aM k 900) 9)]) d3 i1 b8 Jj b9 rfl rfl (Nat.zero_le _) (xAd rfl) rfl
  have r9:=c8.keep (by simp) (fun id h _=>e0 id h)
  have u6:=(e0 _ c4).trans d6
  have u7:=(e0 _ b6).trans d7
  obtain⟨w8,E2,f3,w1,w0,u1,d0,n2,s2⟩:=aL (x:=(k,31)) n1 jV (⟨⟨_,_,rfl,rfl,rfl⟩,rfl⟩)
  have s0:=r9.ext d0
  have m9:=d0.old u6
  have q1:=d0.old u7
  have c7:=d0.old u5
  have m8:w8=(i64 (aD k 31)):=s2
  subst m8
  have p4:=t0.trans d0
  obtain⟨p6,s5,e9,y5,z2,l9,A3⟩:=bC n2 ⟨[i64 (aD k N),i64 (aD (aM k 13) N),i64 (aD (IntKind.wrap .i64 ((aD k N)+(aD (aM k 13) N))) 2),i64 (aD (aM k 900) 9)],46,4,0,true⟩
  have L9:M0.next<=p6:=(lQ e9 p4:)
  have F9:=fJ m9 e9
  have dr6b156:=fJ q1 e9
  have db69b156:=fJ c7 e9
  have C9:=s0.new e9 l9
  have z3:=l9.old m9
  have z4:=l9.old q1
  have H1:=l9.old c7
  have E7:=p4.trans l9
  obtain⟨q6,f8,f6,w6,E8,A6,l2,r1,L5⟩:=fX (P:=prog) (sT:=24) (xT:=24) (y:=32) (c:=2) C9 E7 A3 (by intro x hx;simp only [List.mem_cons,List.not_mem_nil,or_false] at hx;rcases hx with rfl|rfl|rfl|rfl<;>first|exact aB.lt_of_get z2|exact aB.lt_of_get H1|exact aB.lt_of_get z3|exact aB.lt_of_get z4) (by kernel_rfl) (by kernel_rfl) (by kernel_rfl) (by kernel_rfl) (by decide) (by decide) rfl k3 z2 (o:=0) (new:= [i64 (aD k N),i64 (aD (aM k 13) N),i64 (aD (IntKind.wrap .i64 ((aD k N)+(aD (aM k 13) N))) 2),i64 (aD (aM k 900) 9)]) rfl rfl rfl
  have H3:=r1 _ _ z3 (by simp)
  have d8:=r1 _ _ z4 (by simp)
  obtain⟨g9,K3,v4,r5,F1,n4,M6⟩:=aZ (o:=1) (v:=f8) (new:= [i64 N,f8]) E8 np A6 Qg H3 (by rw[cJ l2.isCell];rfl) (by rw[cJ l2.isCell];show(isCell _&&true)=true;rw[l2.isCell];rfl) (Nat.zero_le _) (xAd rfl) (by rw[cJ l2.isCell];rfl)
  have D4:=l2.keep (by simp) (fun id h _=>r5 id h)
  have q2:=(r5 _ (Ne.symm j7)).trans d8
  have a1:oR prog [] 100 Tryz.f9 (q9.loopAt 0) [(1,(aC bb o m c)),(2,(i64 md)),(6,(pt r6 0)),(7,(pt p 0)),(8,(i64 (i:Int)))] M [aQ 10,aQ 12,aQ 15,aQ 16,aQ 22,aR 24 (i64 k),aR 32 (i64 N),bJ 34 (i64 (aD k N)) a0,aR 42 (i64 N),bJ 44 (i64 (aD (aM k 13) N)) a2,bJ 50 (i64 (aD (aM k 170) 5)) a3,bJ 56 (i64 (aD (aM k 900) 9)) a7,bJ 60 (pt b1 0) (aB.mk a4.blks a4.next (aV 0 [⟨14,1,a3.next,a7.next⟩,⟨11,1,a2.next,a3.next⟩,⟨8,1,a0.next,a2.next⟩,⟨3,1,M.next,a0.next⟩,⟨2,1,M.next,M.next⟩]++M.hide) a4.log),jE 62 a6,bJ 66 (i64 (aD md 3)) b0,aQ 69,aR 73 (i64 (aD k N)),aR 77 (i64 (aD (aM k 13) N)),bJ 81 (i64 (aD (IntKind.wrap .i64 ((aD k N)+(aD (aM k 13) N))) 2)) a8,jE 85 i4,bJ 89 (i64 (aD k 31)) f3,aO 92,aR 96 S,aR 98 (.agg ⟨[i64 (aD k N),i64 (aD (aM k 13) N),i64 (aD (IntKind.wrap .i64 ((aD k N)+(aD (aM k 13) N))) 2),i64 (aD (aM k 900) 9)]⟩),bJ 100 (aC p6 0 1 2) s5,.at 102 ((bif q6 then 1 else 2),.val f8,f6),jE 106 g9] [1,2,6,7,8]=some (.normal,[some (aC bb o m c),some (i64 md),some (pt r6 0),some (pt p 0),some (i64 (IntKind.wrap .i64 ((i:Int)+(1:Int))))],g9,[qT (decide ((i:Int)<(m:Int))),qT (decide ((i:Int)<(m:Int))),qT (decide ((i:Int)<(m:Int))),qT (decide ((i:Int)<(40:Int))),.q (.inb (i:Int) m) (eD true),qL 3 bb (o+((i:Int):Int).toNat*1) M (i64 k),qL 3 p 0 (aB.mk M.blks M.next M.hide []) (i64 N),qC 22 [i64 k,i64 N] (aB.mk M.blks M.next M.hide []) (i64 (aD k N)) a0,qL 3 p 0 (aB.mk a0.blks a0.next (aV 64 [⟨3,1,M.next,a0.next⟩,⟨2,1,M.next,M.next⟩]++M.hide) a0.log) (i64 N),qT (Nat.blt p M.next),qC 22 [i64 (aM k 13),i64 N] (aB.mk a0.blks a0.next M.hide a0.log) (i64 (aD (aM k 13) N)) a2,qC 22 [i64 (aM k 170),i64 5] (aB.mk a2.blks a2.next M.hide a2.log) (i64 (aD (aM k 170) 5)) a3,qC 22 [i64 (aM k 900),i64 9] (aB.mk a3.blks a3.next M.hide a3.log) (i64 (aD (aM k 900) 9)) a7,.eq (cM prog 46 (aB.mk a7.blks a7.next (aV 0 [⟨14,1,a3.next,a7.next⟩,⟨11,1,a2.next,a3.next⟩,⟨8,1,a0.next,a2.next⟩,⟨3,1,M.next,a0.next⟩,⟨2,1,M.next,M.next⟩]++M.hide) a7.log)) (1,.val (pt b1 0),(aB.mk a4.blks a4.next (aV 0 [⟨14,1,a3.next,a7.next⟩,⟨11,1,a2.next,a3.next⟩,⟨8,1,a0.next,a2.next⟩,⟨3,1,M.next,a0.next⟩,⟨2,1,M.next,M.next⟩]++M.hide) a4.log)),qS 46 b1 0 (.agg ⟨[i64 (aD k N),i64 (aD (aM k 13) N),i64 (aD (aM k 170) 5),i64 (aD (aM k 900) 9)]⟩) (aB.mk (aB.mk a4.blks a4.next (aV 0 [⟨14,1,a3.next,a7.next⟩,⟨11,1,a2.next,a3.next⟩,⟨8,1,a0.next,a2.next⟩,⟨3,1,M.next,a0.next⟩,⟨2,1,M.next,M.next⟩]++M.hide) a4.log).blks (aB.mk a4.blks a4.next (aV 0 [⟨14,1,a3.next,a7.next⟩,⟨11,1,a2.next,a3.next⟩,⟨8,1,a0.next,a2.next⟩,⟨3,1,M.next,a0.next⟩,⟨2,1,M.next,M.next⟩]++M.hide) a4.log).next M.hide (aB.mk a4.blks a4.next (aV 0 [⟨14,1,a3.next,a7.next⟩,⟨11,1,a2.next,a3.next⟩,⟨8,1,a0.next,a2.next⟩,⟨3,1,M.next,a0.next⟩,⟨2,1,M.next,M.next⟩]++M.hide) a4.log).log) a6,qT (cZ [p] a6.log),qC 22 [i64 md,i64 3] (aB.mk a6.blks a6.next M.hide (a6.log++M.log)) (i64 (aD md 3)) b0,qT ((aD md 3)==(0:Int)),qL 3 b1 0 b0 (i64 (aD k N)),qL 3 b1 1 b0 (i64 (aD (aM k 13) N)),qC 22 [i64 (IntKind.wrap .i64 ((aD k N)+(aD (aM k 13) N))),i64 2] b0 (i64 (aD (IntKind.wrap .i64 ((aD k N)+(aD (aM k 13) N))) 2)) a8,qS 3 b1 2 (i64 (aD (IntKind.wrap .i64 ((aD k N)+(aD (aM k 13) N))) 2)) a8 i4,qC 22 [i64 k,i64 31] i4 (i64 (aD k 31)) f3,qF ((aD k 31)==(0:Int)),qL 24 p 1 f3 S,qL 46 b1 0 f3 (.agg ⟨[i64 (aD k N),i64 (aD (aM k 13) N),i64 (aD (IntKind.wrap .i64 ((aD k N)+(aD (aM k 13) N))) 2),i64 (aD (aM k 900) 9)]⟩),.eq (bH prog 24 1 [(0,(.agg ⟨[i64 (aD k N),i64 (aD (aM k 13) N),i64 (aD (IntKind.wrap .i64 ((aD k N)+(aD (aM k 13) N))) 2),i64 (aD (aM k 900) 9)]⟩))] f3) (1,.val (aC p6 0 1 2),s5),.q (.append [24,24] S (aC p6 0 1 2) s5) ((bif q6 then 1 else 2),.val f8,f6),qS 24 p 1 f8 f6 g9]):=by cases q6<;>kernel_rfl
  dsimp only at a1
  have o2:aB.mk M.blks M.next M.hide []=R1:=k8.symm
  have o3:=pT ((X0).hide.trans (j6).hide.symm)
  have o4:=Gs 64 [⟨3,1,M.next,a0.next⟩,⟨2,1,M.next,M.next⟩] ((X0).hide.trans (j6).hide.symm)
  have o5:=pT ((X0).hide.trans (t5).hide.symm)
  have o6:=pT ((X0).hide.trans (t6).hide.symm)
  have o7:=pT ((X0).hide.trans (t7).hide.symm)
  have o8:=Dr (L:=(a6.log++M.log)) ((X0).hide.trans (t8).hide.symm)
  have o9:(aB.mk a6.blks a6.next a6.hide (a6.log++M.log))=p3:=c6.symm
  try rw[o2] at a1
  try rw[o3] at a1
  try rw[o4] at a1
  try rw[o5] at a1
  try rw[o6] at a1
  try rw[o7] at a1
  try rw[o8] at a1
  try rw[o9] at a1
  obtain⟨T1,h1,h2⟩:=Rd.told aG aF (fun B=>lV (gH 22 Xs (gL _))) (fun _ _=>rfl) a1 (hw (bT g8) (hk (bT g8) (hk (bT x0) (hk (dE (by omega) (by simp at g8;omega)) (hk (eO (aN X0 hld0)) (hk (lC bQ g6 rfl) (hk (aK rfl x5 x1 u0) (hk (lC bQ (bV.2 ⟨dC (by simp;omega),v8⟩) rfl) (hk (lG k6) (hk (aK rfl x6 x2 u2) (hk (aK rfl x7 x3 u3) (hk (aK rfl x8 x4 u4) (hk (bN (by rw[<-e5,<-i7];kernel_rfl) xAc) (hk (dB x9) (hk (eA (by rw[k5];simp<;>omega)) (hk (aK rfl k7 k4 j8) (hk (bT cc2) (hk (lC bQ e6 rfl) (hk (lC bQ e6 rfl) (hk (aK rfl e3 e2 d4) (hk (dB w2) (hk (aK rfl w1 w0 u1) (hk (bF cc3) (hk (lC nL m9 rfl) (hk (lA ⟨tL,nT⟩ c7 rfl) (hk (bN (by rw[<-e9,<-y5];kernel_rfl) xAc) (hk (kB w6 (by cases q6<;>simp)) (hk (dB K3) hn))))))))))))))))))))))))))))
  exact⟨T1,g9,f8,h1,h2,F1,n4,v4,q2,D4.less (by intro x hx;simp only [List.mem_cons,List.not_mem_nil,or_false] at hx;rcases hx with rfl|rfl<;>simp)⟩
 ·intro cc2 cc3 cc4 hld0
  obtain⟨e4,m4,a8,e3,e2,d4,a5,b8,d2⟩:=aL (x:=(md,3)) f2 jV (⟨⟨_,_,rfl,rfl,rfl⟩,rfl⟩)
  have c8:=j3.ext a5
  have d6:=a5.old j9
  have d7:=a5.old k0
  have b9:=a5.old e6
  have b7:e4=(i64 (aD md 3)):=d2
  subst b7
  have d3:=j4.trans a5
  obtain⟨j2,s9,b5,j1,j0,i6,a9,d9,i3⟩:=aL (x:=((IntKind.wrap .i64 ((aD (aM k 170) 5)*(aD k N))),3)) b8 jV (⟨⟨_,_,rfl,rfl,rfl⟩,rfl⟩)
  have i2:=c8.ext a9
  have g3:=a9.old d6
  have h4:=a9.old d7
  have g4:=a9.old b9
  have d5:j2=(i64 (aD (IntKind.wrap .i64 ((aD (aM k 170) 5)*(aD k N))) 3)):=i3
  subst d5
  have h0:=d3.trans a9
  obtain⟨i5,w3,u9,e1,t1,n3,C0⟩:=aZ (o:=2) (v:=(i64 (aD (IntKind.wrap .i64 ((aD (aM k 170) 5)*(aD k N))) 3))) (new:= [i64 (aD k N),i64 (aD (aM k 13) N),i64 (aD (IntKind.wrap .i64 ((aD (aM k 170) 5)*(aD k N))) 3),i64 (aD (aM k 900) 9)]) h0 i1 d9 Jj g4 rfl rfl (Nat.zero_le _) (xAd rfl) rfl
  have k9:=i2.keep (by simp) (fun id h _=>e1 id h)
  have c7:=(e1 _ c4).trans g3
  have k1:=(e1 _ b6).trans h4
  obtain⟨p0,y0,c0,o0,n9,m6,b4,h6,m3⟩:=aL (x:=(k,31)) n3 jV (⟨⟨_,_,rfl,rfl,rfl⟩,rfl⟩)
  have l1:=k9.ext b4
  have i8:=b4.old c7
  have h5:=b4.old k1
  have c3:=b4.old u9
  have h3:p0=(i64 (aD k 31)):=m3
  subst h3
  have j5:=t1.trans b4
  obtain⟨L0,O2,s6,K1,J3,G3,m0,B0,E1⟩:=aL (x:=((aM k 31),3)) h6 jV (⟨⟨_,_,rfl,rfl,rfl⟩,rfl⟩)
  have D2:=l1.ext m0
  have H4:=m0.old i8
  have H5:=m0.old h5
  have v4:=m0.old c3
  have z0:L0=(i64 (aD (aM k 31) 3)):=E1
  subst z0
  have F0:=j5.trans m0
  obtain⟨c1,o1,v5,n8,y3,B1,M7⟩:=aZ (o:=3) (v:=(i64 (IntKind.wrap .i64 ((2147483647:Int)-(aD (aM k 31) 3))))) (new:= [i64 (aD k N),i64 (aD (aM k 13) N),i64 (aD (IntKind.wrap .i64 ((aD (aM k 170) 5)*(aD k N))) 3),i64 (IntKind.wrap .i64 ((2147483647:Int)-(aD (aM k 31) 3)))]) F0 i1 B0 Jj v4 rfl rfl (Nat.zero_le _) (xAd rfl) rfl
  have D5:=D2.keep (by simp) (fun id h _=>n8 id h)
  have i9:=(n8 _ c4).trans H4
  have z8:=(n8 _ b6).trans H5
  obtain⟨p8,c2,f1,y7,z9,m2,h8⟩:=bC B1 ⟨[i64 (aD k N),i64 (aD (aM k 13) N),i64 (aD (IntKind.wrap .i64 ((aD (aM k 170) 5)*(aD k N))) 3),i64 (IntKind.wrap .i64 ((2147483647:Int)-(aD (aM k 31) 3)))],46,4,0,true⟩
  have M2:M0.next<=p8:=(lQ f1 y3:)
  have G1:=fJ i9 f1
  have dr6b196:=fJ z8 f1
  have db69b196:=fJ v5 f1
  have D6:=D5.new f1 m2
  have q3:=m2.old i9
  have k2:=m2.old z8
  have H8:=m2.old v5
  have F4:=y3.trans m2
  obtain⟨q8,g1,s8,K6,F6,B4,l5,r3,L7⟩:=fX (P:=prog) (sT:=24) (xT:=24) (y:=32) (c:=2) D6 F4 h8 (by intro x hx;simp only [List.mem_cons,List.not_mem_nil,or_false] at hx;rcases hx with rfl|rfl|rfl|rfl<;>first|exact aB.lt_of_get z9|exact aB.lt_of_get H8|exact aB.lt_of_get q3|exact aB.lt_of_get k2) (by kernel_rfl) (by kernel_rfl) (by kernel_rfl) (by kernel_rfl) (by decide) (by decide) rfl k3 z9 (o:=0) (new:= [i64 (aD k N),i64 (aD (aM k 13) N),i64 (aD (IntKind.wrap .i64 ((aD (aM k 170) 5)*(aD k N))) 3),i64 (IntKind.wrap .i64 ((2147483647:Int)-(aD (aM k 31) 3)))]) rfl rfl rfl
  have I1:=r3 _ _ q3 (by simp)
  have I2:=r3 _ _ k2 (by simp)
  obtain⟨p2,K7,I3,r8,F7,B5,M9⟩:=aZ (o:=1) (v:=g1) (new:= [i64 N,g1]) F6 np B4 Qg I1 (by rw[cJ l5.isCell];rfl) (by rw[cJ l5.isCell];show(isCell _&&true)=true;rw[l5.isCell];rfl) (Nat.zero_le _) (xAd rfl) (by rw[cJ l5.isCell];rfl)
  have D8:=l5.keep (by simp) (fun id h _=>r8 id h)
  have I4:=(r8 _ (Ne.symm j7)).trans I2
  have a1:oR prog [] 100 Tryz.f9 (q9.loopAt 0) [(1,(aC bb o m c)),(2,(i64 md)),(6,(pt r6 0)),(7,(pt p 0)),(8,(i64 (i:Int)))] M [aQ 10,aQ 12,aQ 15,aQ 16,aQ 22,aR 24 (i64 k),aR 32 (i64 N),bJ 34 (i64 (aD k N)) a0,aR 42 (i64 N),bJ 44 (i64 (aD (aM k 13) N)) a2,bJ 50 (i64 (aD (aM k 170) 5)) a3,bJ 56 (i64 (aD (aM k 900) 9)) a7,bJ 60 (pt b1 0) (aB.mk a4.blks a4.next (aV 0 [⟨14,1,a3.next,a7.next⟩,⟨11,1,a2.next,a3.next⟩,⟨8,1,a0.next,a2.next⟩,⟨3,1,M.next,a0.next⟩,⟨2,1,M.next,M.next⟩]++M.hide) a4.log),jE 62 a6,bJ 66 (i64 (aD md 3)) b0,aO 69,bJ 73 (i64 (aD md 3)) a8,aQ 76,aR 80 (i64 (aD (aM k 170) 5)),aR 84 (i64 (aD k N)),bJ 88 (i64 (aD (IntKind.wrap .i64 ((aD (aM k 170) 5)*(aD k N))) 3)) b5,jE 92 i5,bJ 96 (i64 (aD k 31)) c0,aQ 99,bJ 105 (i64 (aD (aM k 31) 3)) s6,jE 111 c1,aR 115 S,aR 117 (.agg ⟨[i64 (aD k N),i64 (aD (aM k 13) N),i64 (aD (IntKind.wrap .i64 ((aD (aM k 170) 5)*(aD k N))) 3),i64 (IntKind.wrap .i64 ((2147483647:Int)-(aD (aM k 31) 3)))]⟩),bJ 119 (aC p8 0 1 2) c2,.at 121 ((bif q8 then 1 else 2),.val g1,s8),jE 125 p2] [1,2,6,7,8]=some (.normal,[some (aC bb o m c),some (i64 md),some (pt r6 0),some (pt p 0),some (i64 (IntKind.wrap .i64 ((i:Int)+(1:Int))))],p2,[qT (decide ((i:Int)<(m:Int))),qT (decide ((i:Int)<(m:Int))),qT (decide ((i:Int)<(m:Int))),qT (decide ((i:Int)<(40:Int))),.q (.inb (i:Int) m) (eD true),qL 3 bb (o+((i:Int):Int).toNat*1) M (i64 k),qL 3 p 0 (aB.mk M.blks M.next M.hide []) (i64 N),qC 22 [i64 k,i64 N] (aB.mk M.blks M.next M.hide []) (i64 (aD k N)) a0,qL 3 p 0 (aB.mk a0.blks a0.next (aV 64 [⟨3,1,M.next,a0.next⟩,⟨2,1,M.next,M.next⟩]++M.hide) a0.log) (i64 N),qT (Nat.blt p M.next),qC 22 [i64 (aM k 13),i64 N] (aB.mk a0.blks a0.next M.hide a0.log) (i64 (aD (aM k 13) N)) a2,qC 22 [i64 (aM k 170),i64 5] (aB.mk a2.blks a2.next M.hide a2.log) (i64 (aD (aM k 170) 5)) a3,qC 22 [i64 (aM k 900),i64 9] (aB.mk a3.blks a3.next M.hide a3.log) (i64 (aD (aM k 900) 9)) a7,.eq (cM prog 46 (aB.mk a7.blks a7.next (aV 0 [⟨14,1,a3.next,a7.next⟩,⟨11,1,a2.next,a3.next⟩,⟨8,1,a0.next,a2.next⟩,⟨3,1,M.next,a0.next⟩,⟨2,1,M.next,M.next⟩]++M.hide) a7.log)) (1,.val (pt b1 0),(aB.mk a4.blks a4.next (aV 0 [⟨14,1,a3.next,a7.next⟩,⟨11,1,a2.next,a3.next⟩,⟨8,1,a0.next,a2.next⟩,⟨3,1,M.next,a0.next⟩,⟨2,1,M.next,M.next⟩]++M.hide) a4.log)),qS 46 b1 0 (.agg ⟨[i64 (aD k N),i64 (aD (aM k 13) N),i64 (aD (aM k 170) 5),i64 (aD (aM k 900) 9)]⟩) (aB.mk (aB.mk a4.blks a4.next (aV 0 [⟨14,1,a3.next,a7.next⟩,⟨11,1,a2.next,a3.next⟩,⟨8,1,a0.next,a2.next⟩,⟨3,1,M.next,a0.next⟩,⟨2,1,M.next,M.next⟩]++M.hide) a4.log).blks (aB.mk a4.blks a4.next (aV 0 [⟨14,1,a3.next,a7.next⟩,⟨11,1,a2.next,a3.next⟩,⟨8,1,a0.next,a2.next⟩,⟨3,1,M.next,a0.next⟩,⟨2,1,M.next,M.next⟩]++M.hide) a4.log).next M.hide (aB.mk a4.blks a4.next (aV 0 [⟨14,1,a3.next,a7.next⟩,⟨11,1,a2.next,a3.next⟩,⟨8,1,a0.next,a2.next⟩,⟨3,1,M.next,a0.next⟩,⟨2,1,M.next,M.next⟩]++M.hide) a4.log).log) a6,qT (cZ [p] a6.log),qC 22 [i64 md,i64 3] (aB.mk a6.blks a6.next M.hide (a6.log++M.log)) (i64 (aD md 3)) b0,qF ((aD md 3)==(0:Int)),qC 22 [i64 md,i64 3] b0 (i64 (aD md 3)) a8,qT ((aD md 3)==(1:Int)),qL 3 b1 2 a8 (i64 (aD (aM k 170) 5)),qL 3 b1 0 a8 (i64 (aD k N)),qC 22 [i64 (IntKind.wrap .i64 ((aD (aM k 170) 5)*(aD k N))),i64 3] a8 (i64 (aD (IntKind.wrap .i64 ((aD (aM k 170) 5)*(aD k N))) 3)) b5,qS 3 b1 2 (i64 (aD (IntKind.wrap .i64 ((aD (aM k 170) 5)*(aD k N))) 3)) b5 i5,qC 22 [i64 k,i64 31] i5 (i64 (aD k 31)) c0,qT ((aD k 31)==(0:Int)),qC 22 [i64 (aM k 31),i64 3] c0 (i64 (aD (aM k 31) 3)) s6,qS 3 b1 3 (i64 (IntKind.wrap .i64 ((2147483647:Int)-(aD (aM k 31) 3)))) s6 c1,qL 24 p 1 c1 S,qL 46 b1 0 c1 (.agg ⟨[i64 (aD k N),i64 (aD (aM k 13) N),i64 (aD (IntKind.wrap .i64 ((aD (aM k 170) 5)*(aD k N))) 3),i64 (IntKind.wrap .i64 ((2147483647:Int)-(aD (aM k 31) 3)))]⟩),.eq (bH prog 24 1 [(0,(.agg ⟨[i64 (aD k N),i64 (aD (aM k 13) N),i64 (aD (IntKind.wrap .i64 ((aD (aM k 170) 5)*(aD k N))) 3),i64 (IntKind.wrap .i64 ((2147483647:Int)-(aD (aM k 31) 3)))]⟩))] c1) (1,.val (aC p8 0 1 2),c2),.q (.append [24,24] S (aC p8 0 1 2) c2) ((bif q8 then 1 else 2),.val g1,s8),qS 24 p 1 g1 s8 p2]):=by cases q8<;>kernel_rfl
  dsimp only at a1
  have o2:aB.mk M.blks M.next M.hide []=R1:=k8.symm
  have o3:=pT ((X0).hide.trans (j6).hide.symm)
  have o4:=Gs 64 [⟨3,1,M.next,a0.next⟩,⟨2,1,M.next,M.next⟩] ((X0).hide.trans (j6).hide.symm)
  have o5:=pT ((X0).hide.trans (t5).hide.symm)
  have o6:=pT ((X0).hide.trans (t6).hide.symm)
  have o7:=pT ((X0).hide.trans (t7).hide.symm)
  have o8:=Dr (L:=(a6.log++M.log)) ((X0).hide.trans (t8).hide.symm)
  have o9:(aB.mk a6.blks a6.next a6.hide (a6.log++M.log))=p3:=c6.symm
  try rw[o2] at a1
  try rw[o3] at a1
  try rw[o4] at a1
  try rw[o5] at a1
  try rw[o6] at a1
  try rw[o7] at a1
  try rw[o8] at a1
  try rw[o9] at a1
  obtain⟨T1,h1,h2⟩:=Rd.told aG aF (fun B=>lV (gH 22 Xs (gL _))) (fun _ _=>rfl) a1 (hw (bT g8) (hk (bT g8) (hk (bT x0) (hk (dE (by omega) (by simp at g8;omega)) (hk (eO (aN X0 hld0)) (hk (lC bQ g6 rfl) (hk (aK rfl x5 x1 u0) (hk (lC bQ (bV.2 ⟨dC (by simp;omega),v8⟩) rfl) (hk (lG k6) (hk (aK rfl x6 x2 u2) (hk (aK rfl x7 x3 u3) (hk (aK rfl x8 x4 u4) (hk (bN (by rw[<-e5,<-i7];kernel_rfl) xAc) (hk (dB x9) (hk (eA (by rw[k5];simp<;>omega)) (hk (aK rfl k7 k4 j8) (hk (bF cc2) (hk (aK rfl e3 e2 d4) (hk (bT cc3) (hk (lC bQ b9 rfl) (hk (lC bQ b9 rfl) (hk (aK rfl j1 j0 i6) (hk (dB w3) (hk (aK rfl o0 n9 m6) (hk (bT cc4) (hk (aK rfl K1 J3 G3) (hk (dB o1) (hk (lC nL i9 rfl) (hk (lA ⟨tL,nT⟩ v5 rfl) (hk (bN (by rw[<-f1,<-y7];kernel_rfl) xAc) (hk (kB K6 (by cases q8<;>simp)) (hk (dB K7) hn))))))))))))))))))))))))))))))))
  exact⟨T1,p2,g1,h1,h2,F7,B5,I3,I4,D8.less (by intro x hx;simp only [List.mem_cons,List.not_mem_nil,or_false] at hx;rcases hx with rfl|rfl<;>simp)⟩
 ·intro cc2 cc3 cc4 hld0
  obtain⟨e4,m4,a8,e3,e2,d4,a5,b8,d2⟩:=aL (x:=(md,3)) f2 jV (⟨⟨_,_,rfl,rfl,rfl⟩,rfl⟩)
  have c8:=j3.ext a5
  have d6:=a5.old j9
  have d7:=a5.old k0
  have b9:=a5.old e6
  have b7:e4=(i64 (aD md 3)):=d2
  subst b7
  have d3:=j4.trans a5
  obtain⟨j2,s9,b5,j1,j0,i6,a9,d9,i3⟩:=aL (x:=((IntKind.wrap .i64 ((aD (aM k 170) 5)*(aD k N))),3)) b8 jV (⟨⟨_,_,rfl,rfl,rfl⟩,rfl⟩)
  have i2:=c8.ext a9
  have g3:=a9.old d6
  have h4:=a9.old d7
  have g4:=a9.old b9
  have d5:j2=(i64 (aD (IntKind.wrap .i64 ((aD (aM k 170) 5)*(aD k N))) 3)):=i3
  subst d5
  have h0:=d3.trans a9
  obtain⟨i5,w3,u9,e1,t1,n3,C0⟩:=aZ (o:=2) (v:=(i64 (aD (IntKind.wrap .i64 ((aD (aM k 170) 5)*(aD k N))) 3))) (new:= [i64 (aD k N),i64 (aD (aM k 13) N),i64 (aD (IntKind.wrap .i64 ((aD (aM k 170) 5)*(aD k N))) 3),i64 (aD (aM k 900) 9)]) h0 i1 d9 Jj g4 rfl rfl (Nat.zero_le _) (xAd rfl) rfl
  have k9:=i2.keep (by simp) (fun id h _=>e1 id h)
  have c7:=(e1 _ c4).trans g3
  have k1:=(e1 _ b6).trans h4
  obtain⟨p0,y0,c0,o0,n9,m6,b4,h6,m3⟩:=aL (x:=(k,31)) n3 jV (⟨⟨_,_,rfl,rfl,rfl⟩,rfl⟩)
  have l1:=k9.ext b4
  have i8:=b4.old c7
  have h5:=b4.old k1
  have c3:=b4.old u9
  have h3:p0=(i64 (aD k 31)):=m3
  subst h3
  have j5:=t1.trans b4
  obtain⟨g2,c5,b2,m7,n0,d1,h7⟩:=bC h6 ⟨[i64 (aD k N),i64 (aD (aM k 13) N),i64 (aD (IntKind.wrap .i64 ((aD (aM k 170) 5)*(aD k N))) 3),i64 (aD (aM k 900) 9)],46,4,0,true⟩
  have B8:M0.next<=g2:=(lQ b2 j5:)
  have t9:=fJ i8 b2
  have p9:=fJ h5 b2
  have m5:=fJ c3 b2
  have l3:=l1.new b2 d1
  have d8:=d1.old i8
  have e7:=d1.old h5
  have v3:=d1.old c3
  have t2:=j5.trans d1
  obtain⟨g5,b3,c1,o1,t3,n5,c9,h9,B7⟩:=fX (P:=prog) (sT:=24) (xT:=24) (y:=32) (c:=2) l3 t2 h7 (by intro x hx;simp only [List.mem_cons,List.not_mem_nil,or_false] at hx;rcases hx with rfl|rfl|rfl|rfl<;>first|exact aB.lt_of_get n0|exact aB.lt_of_get v3|exact aB.lt_of_get d8|exact aB.lt_of_get e7) (by kernel_rfl) (by kernel_rfl) (by kernel_rfl) (by kernel_rfl) (by decide) (by decide) rfl k3 n0 (o:=0) (new:= [i64 (aD k N),i64 (aD (aM k 13) N),i64 (aD (IntKind.wrap .i64 ((aD (aM k 170) 5)*(aD k N))) 3),i64 (aD (aM k 900) 9)]) rfl rfl rfl
  have v6:=h9 _ _ d8 (by simp)
  have i9:=h9 _ _ e7 (by simp)
  obtain⟨c2,w7,v7,i0,t4,h8,C1⟩:=aZ (o:=1) (v:=b3) (new:= [i64 N,b3]) t3 np n5 Qg v6 (by rw[cJ c9.isCell];rfl) (by rw[cJ c9.isCell];show(isCell _&&true)=true;rw[c9.isCell];rfl) (Nat.zero_le _) (xAd rfl) (by rw[cJ c9.isCell];rfl)
  have s1:=c9.keep (by simp) (fun id h _=>i0 id h)
  have k2:=(i0 _ (Ne.symm j7)).trans i9
  have a1:oR prog [] 100 Tryz.f9 (q9.loopAt 0) [(1,(aC bb o m c)),(2,(i64 md)),(6,(pt r6 0)),(7,(pt p 0)),(8,(i64 (i:Int)))] M [aQ 10,aQ 12,aQ 15,aQ 16,aQ 22,aR 24 (i64 k),aR 32 (i64 N),bJ 34 (i64 (aD k N)) a0,aR 42 (i64 N),bJ 44 (i64 (aD (aM k 13) N)) a2,bJ 50 (i64 (aD (aM k 170) 5)) a3,bJ 56 (i64 (aD (aM k 900) 9)) a7,bJ 60 (pt b1 0) (aB.mk a4.blks a4.next (aV 0 [⟨14,1,a3.next,a7.next⟩,⟨11,1,a2.next,a3.next⟩,⟨8,1,a0.next,a2.next⟩,⟨3,1,M.next,a0.next⟩,⟨2,1,M.next,M.next⟩]++M.hide) a4.log),jE 62 a6,bJ 66 (i64 (aD md 3)) b0,aO 69,bJ 73 (i64 (aD md 3)) a8,aQ 76,aR 80 (i64 (aD (aM k 170) 5)),aR 84 (i64 (aD k N)),bJ 88 (i64 (aD (IntKind.wrap .i64 ((aD (aM k 170) 5)*(aD k N))) 3)) b5,jE 92 i5,bJ 96 (i64 (aD k 31)) c0,aO 99,aR 103 S,aR 105 (.agg ⟨[i64 (aD k N),i64 (aD (aM k 13) N),i64 (aD (IntKind.wrap .i64 ((aD (aM k 170) 5)*(aD k N))) 3),i64 (aD (aM k 900) 9)]⟩),bJ 107 (aC g2 0 1 2) c5,.at 109 ((bif g5 then 1 else 2),.val b3,c1),jE 113 c2] [1,2,6,7,8]=some (.normal,[some (aC bb o m c),some (i64 md),some (pt r6 0),some (pt p 0),some (i64 (IntKind.wrap .i64 ((i:Int)+(1:Int))))],c2,[qT (decide ((i:Int)<(m:Int))),qT (decide ((i:Int)<(m:Int))),qT (decide ((i:Int)<(m:Int))),qT (decide ((i:Int)<(40:Int))),.q (.inb (i:Int) m) (eD true),qL 3 bb (o+((i:Int):Int).toNat*1) M (i64 k),qL 3 p 0 (aB.mk M.blks M.next M.hide []) (i64 N),qC 22 [i64 k,i64 N] (aB.mk M.blks M.next M.hide []) (i64 (aD k N)) a0,qL 3 p 0 (aB.mk a0.blks a0.next (aV 64 [⟨3,1,M.next,a0.next⟩,⟨2,1,M.next,M.next⟩]++M.hide) a0.log) (i64 N),qT (Nat.blt p M.next),qC 22 [i64 (aM k 13),i64 N] (aB.mk a0.blks a0.next M.hide a0.log) (i64 (aD (aM k 13) N)) a2,qC 22 [i64 (aM k 170),i64 5] (aB.mk a2.blks a2.next M.hide a2.log) (i64 (aD (aM k 170) 5)) a3,qC 22 [i64 (aM k 900),i64 9] (aB.mk a3.blks a3.next M.hide a3.log) (i64 (aD (aM k 900) 9)) a7,.eq (cM prog 46 (aB.mk a7.blks a7.next (aV 0 [⟨14,1,a3.next,a7.next⟩,⟨11,1,a2.next,a3.next⟩,⟨8,1,a0.next,a2.next⟩,⟨3,1,M.next,a0.next⟩,⟨2,1,M.next,M.next⟩]++M.hide) a7.log)) (1,.val (pt b1 0),(aB.mk a4.blks a4.next (aV 0 [⟨14,1,a3.next,a7.next⟩,⟨11,1,a2.next,a3.next⟩,⟨8,1,a0.next,a2.next⟩,⟨3,1,M.next,a0.next⟩,⟨2,1,M.next,M.next⟩]++M.hide) a4.log)),qS 46 b1 0 (.agg ⟨[i64 (aD k N),i64 (aD (aM k 13) N),i64 (aD (aM k 170) 5),i64 (aD (aM k 900) 9)]⟩) (aB.mk (aB.mk a4.blks a4.next (aV 0 [⟨14,1,a3.next,a7.next⟩,⟨11,1,a2.next,a3.next⟩,⟨8,1,a0.next,a2.next⟩,⟨3,1,M.next,a0.next⟩,⟨2,1,M.next,M.next⟩]++M.hide) a4.log).blks (aB.mk a4.blks a4.next (aV 0 [⟨14,1,a3.next,a7.next⟩,⟨11,1,a2.next,a3.next⟩,⟨8,1,a0.next,a2.next⟩,⟨3,1,M.next,a0.next⟩,⟨2,1,M.next,M.next⟩]++M.hide) a4.log).next M.hide (aB.mk a4.blks a4.next (aV 0 [⟨14,1,a3.next,a7.next⟩,⟨11,1,a2.next,a3.next⟩,⟨8,1,a0.next,a2.next⟩,⟨3,1,M.next,a0.next⟩,⟨2,1,M.next,M.next⟩]++M.hide) a4.log).log) a6,qT (cZ [p] a6.log),qC 22 [i64 md,i64 3] (aB.mk a6.blks a6.next M.hide (a6.log++M.log)) (i64 (aD md 3)) b0,qF ((aD md 3)==(0:Int)),qC 22 [i64 md,i64 3] b0 (i64 (aD md 3)) a8,qT ((aD md 3)==(1:Int)),qL 3 b1 2 a8 (i64 (aD (aM k 170) 5)),qL 3 b1 0 a8 (i64 (aD k N)),qC 22 [i64 (IntKind.wrap .i64 ((aD (aM k 170) 5)*(aD k N))),i64 3] a8 (i64 (aD (IntKind.wrap .i64 ((aD (aM k 170) 5)*(aD k N))) 3)) b5,qS 3 b1 2 (i64 (aD (IntKind.wrap .i64 ((aD (aM k 170) 5)*(aD k N))) 3)) b5 i5,qC 22 [i64 k,i64 31] i5 (i64 (aD k 31)) c0,qF ((aD k 31)==(0:Int)),qL 24 p 1 c0 S,qL 46 b1 0 c0 (.agg ⟨[i64 (aD k N),i64 (aD (aM k 13) N),i64 (aD (IntKind.wrap .i64 ((aD (aM k 170) 5)*(aD k N))) 3),i64 (aD (aM k 900) 9)]⟩),.eq (bH prog 24 1 [(0,(.agg ⟨[i64 (aD k N),i64 (aD (aM k 13) N),i64 (aD (IntKind.wrap .i64 ((aD (aM k 170) 5)*(aD k N))) 3),i64 (aD (aM k 900) 9)]⟩))] c0) (1,.val (aC g2 0 1 2),c5),.q (.append [24,24] S (aC g2 0 1 2) c5) ((bif g5 then 1 else 2),.val b3,c1),qS 24 p 1 b3 c1 c2]):=by cases g5<;>kernel_rfl
  dsimp only at a1
  have o2:aB.mk M.blks M.next M.hide []=R1:=k8.symm
  have o3:=pT ((X0).hide.trans (j6).hide.symm)
  have o4:=Gs 64 [⟨3,1,M.next,a0.next⟩,⟨2,1,M.next,M.next⟩] ((X0).hide.trans (j6).hide.symm)
  have o5:=pT ((X0).hide.trans (t5).hide.symm)
  have o6:=pT ((X0).hide.trans (t6).hide.symm)
  have o7:=pT ((X0).hide.trans (t7).hide.symm)
  have o8:=Dr (L:=(a6.log++M.log)) ((X0).hide.trans (t8).hide.symm)
  have o9:(aB.mk a6.blks a6.next a6.hide (a6.log++M.log))=p3:=c6.symm
  try rw[o2] at a1
  try rw[o3] at a1
  try rw[o4] at a1
  try rw[o5] at a1
  try rw[o6] at a1
  try rw[o7] at a1
  try rw[o8] at a1
  try rw[o9] at a1
  obtain⟨T1,h1,h2⟩:=Rd.told aG aF (fun B=>lV (gH 22 Xs (gL _))) (fun _ _=>rfl) a1 (hw (bT g8) (hk (bT g8) (hk (bT x0) (hk (dE (by omega) (by simp at g8;omega)) (hk (eO (aN X0 hld0)) (hk (lC bQ g6 rfl) (hk (aK rfl x5 x1 u0) (hk (lC bQ (bV.2 ⟨dC (by simp;omega),v8⟩) rfl) (hk (lG k6) (hk (aK rfl x6 x2 u2) (hk (aK rfl x7 x3 u3) (hk (aK rfl x8 x4 u4) (hk (bN (by rw[<-e5,<-i7];kernel_rfl) xAc) (hk (dB x9) (hk (eA (by rw[k5];simp<;>omega)) (hk (aK rfl k7 k4 j8) (hk (bF cc2) (hk (aK rfl e3 e2 d4) (hk (bT cc3) (hk (lC bQ b9 rfl) (hk (lC bQ b9 rfl) (hk (aK rfl j1 j0 i6) (hk (dB w3) (hk (aK rfl o0 n9 m6) (hk (bF cc4) (hk (lC nL i8 rfl) (hk (lA ⟨tL,nT⟩ c3 rfl) (hk (bN (by rw[<-b2,<-m7];kernel_rfl) xAc) (hk (kB o1 (by cases g5<;>simp)) (hk (dB w7) hn))))))))))))))))))))))))))))))
  exact⟨T1,c2,b3,h1,h2,t4,h8,v7,k2,s1.less (by intro x hx;simp only [List.mem_cons,List.not_mem_nil,or_false] at hx;rcases hx with rfl|rfl<;>simp)⟩
 ·intro cc2 cc3 cc4 hld0
  obtain⟨e4,m4,a8,e3,e2,d4,a5,b8,d2⟩:=aL (x:=(md,3)) f2 jV (⟨⟨_,_,rfl,rfl,rfl⟩,rfl⟩)
  have c8:=j3.ext a5
  have d6:=a5.old j9
  have d7:=a5.old k0
  have b9:=a5.old e6
  have b7:e4=(i64 (aD md 3)):=d2
  subst b7
  have d3:=j4.trans a5
  obtain⟨j2,s9,b5,j1,j0,i6,a9,d9,i3⟩:=aL (x:=(k,31)) b8 jV (⟨⟨_,_,rfl,rfl,rfl⟩,rfl⟩)
  have i2:=c8.ext a9
  have g3:=a9.old d6
  have h4:=a9.old d7
  have g4:=a9.old b9
  have d5:j2=(i64 (aD k 31)):=i3
  subst d5
  have h0:=d3.trans a9
  obtain⟨K9,O1,s4,K0,J2,G2,l8,A2,E0⟩:=aL (x:=((aM k 31),3)) d9 jV (⟨⟨_,_,rfl,rfl,rfl⟩,rfl⟩)
  have C8:=i2.ext l8
  have G8:=l8.old g3
  have G9:=l8.old h4
  have H0:=l8.old g4
  have y9:K9=(i64 (aD (aM k 31) 3)):=E0
  subst y9
  have E5:=h0.trans l8
  obtain⟨f4,w4,v1,n6,y1,A5,M3⟩:=aZ (o:=3) (v:=(i64 (IntKind.wrap .i64 ((2147483647:Int)-(aD (aM k 31) 3))))) (new:= [i64 (aD k N),i64 (aD (aM k 13) N),i64 (aD (aM k 170) 5),i64 (IntKind.wrap .i64 ((2147483647:Int)-(aD (aM k 31) 3)))]) E5 i1 A2 Jj H0 rfl rfl (Nat.zero_le _) (xAd rfl) rfl
  have D0:=C8.keep (by simp) (fun id h _=>n6 id h)
  have c3:=(n6 _ c4).trans G8
  have z5:=(n6 _ b6).trans G9
  obtain⟨g2,c5,b2,m7,n0,d1,h7⟩:=bC A5 ⟨[i64 (aD k N),i64 (aD (aM k 13) N),i64 (aD (aM k 170) 5),i64 (IntKind.wrap .i64 ((2147483647:Int)-(aD (aM k 31) 3)))],46,4,0,true⟩
  have B8:M0.next<=g2:=(lQ b2 y1:)
  have t9:=fJ c3 b2
  have p9:=fJ z5 b2
  have m5:=fJ v1 b2
  have l3:=D0.new b2 d1
  have d8:=d1.old c3
  have e7:=d1.old z5
  have v3:=d1.old v1
  have t2:=y1.trans d1
  obtain⟨g5,b3,c1,o1,t3,n5,c9,h9,B7⟩:=fX (P:=prog) (sT:=24) (xT:=24) (y:=32) (c:=2) l3 t2 h7 (by intro x hx;simp only [List.mem_cons,List.not_mem_nil,or_false] at hx;rcases hx with rfl|rfl|rfl|rfl<;>first|exact aB.lt_of_get n0|exact aB.lt_of_get v3|exact aB.lt_of_get d8|exact aB.lt_of_get e7) (by kernel_rfl) (by kernel_rfl) (by kernel_rfl) (by kernel_rfl) (by decide) (by decide) rfl k3 n0 (o:=0) (new:= [i64 (aD k N),i64 (aD (aM k 13) N),i64 (aD (aM k 170) 5),i64 (IntKind.wrap .i64 ((2147483647:Int)-(aD (aM k 31) 3)))]) rfl rfl rfl
  have v6:=h9 _ _ d8 (by simp)
  have i9:=h9 _ _ e7 (by simp)
  obtain⟨c2,w7,v7,i0,t4,h8,C1⟩:=aZ (o:=1) (v:=b3) (new:= [i64 N,b3]) t3 np n5 Qg v6 (by rw[cJ c9.isCell];rfl) (by rw[cJ c9.isCell];show(isCell _&&true)=true;rw[c9.isCell];rfl) (Nat.zero_le _) (xAd rfl) (by rw[cJ c9.isCell];rfl)
  have s1:=c9.keep (by simp) (fun id h _=>i0 id h)
  have k2:=(i0 _ (Ne.symm j7)).trans i9
  have a1:oR prog [] 100 Tryz.f9 (q9.loopAt 0) [(1,(aC bb o m c)),(2,(i64 md)),(6,(pt r6 0)),(7,(pt p 0)),(8,(i64 (i:Int)))] M [aQ 10,aQ 12,aQ 15,aQ 16,aQ 22,aR 24 (i64 k),aR 32 (i64 N),bJ 34 (i64 (aD k N)) a0,aR 42 (i64 N),bJ 44 (i64 (aD (aM k 13) N)) a2,bJ 50 (i64 (aD (aM k 170) 5)) a3,bJ 56 (i64 (aD (aM k 900) 9)) a7,bJ 60 (pt b1 0) (aB.mk a4.blks a4.next (aV 0 [⟨14,1,a3.next,a7.next⟩,⟨11,1,a2.next,a3.next⟩,⟨8,1,a0.next,a2.next⟩,⟨3,1,M.next,a0.next⟩,⟨2,1,M.next,M.next⟩]++M.hide) a4.log),jE 62 a6,bJ 66 (i64 (aD md 3)) b0,aO 69,bJ 73 (i64 (aD md 3)) a8,aO 76,bJ 80 (i64 (aD k 31)) b5,aQ 83,bJ 89 (i64 (aD (aM k 31) 3)) s4,jE 95 f4,aR 99 S,aR 101 (.agg ⟨[i64 (aD k N),i64 (aD (aM k 13) N),i64 (aD (aM k 170) 5),i64 (IntKind.wrap .i64 ((2147483647:Int)-(aD (aM k 31) 3)))]⟩),bJ 103 (aC g2 0 1 2) c5,.at 105 ((bif g5 then 1 else 2),.val b3,c1),jE 109 c2] [1,2,6,7,8]=some (.normal,[some (aC bb o m c),some (i64 md),some (pt r6 0),some (pt p 0),some (i64 (IntKind.wrap .i64 ((i:Int)+(1:Int))))],c2,[qT (decide ((i:Int)<(m:Int))),qT (decide ((i:Int)<(m:Int))),qT (decide ((i:Int)<(m:Int))),qT (decide ((i:Int)<(40:Int))),.q (.inb (i:Int) m) (eD true),qL 3 bb (o+((i:Int):Int).toNat*1) M (i64 k),qL 3 p 0 (aB.mk M.blks M.next M.hide []) (i64 N),qC 22 [i64 k,i64 N] (aB.mk M.blks M.next M.hide []) (i64 (aD k N)) a0,qL 3 p 0 (aB.mk a0.blks a0.next (aV 64 [⟨3,1,M.next,a0.next⟩,⟨2,1,M.next,M.next⟩]++M.hide) a0.log) (i64 N),qT (Nat.blt p M.next),qC 22 [i64 (aM k 13),i64 N] (aB.mk a0.blks a0.next M.hide a0.log) (i64 (aD (aM k 13) N)) a2,qC 22 [i64 (aM k 170),i64 5] (aB.mk a2.blks a2.next M.hide a2.log) (i64 (aD (aM k 170) 5)) a3,qC 22 [i64 (aM k 900),i64 9] (aB.mk a3.blks a3.next M.hide a3.log) (i64 (aD (aM k 900) 9)) a7,.eq (cM prog 46 (aB.mk a7.blks a7.next (aV 0 [⟨14,1,a3.next,a7.next⟩,⟨11,1,a2.next,a3.next⟩,⟨8,1,a0.next,a2.next⟩,⟨3,1,M.next,a0.next⟩,⟨2,1,M.next,M.next⟩]++M.hide) a7.log)) (1,.val (pt b1 0),(aB.mk a4.blks a4.next (aV 0 [⟨14,1,a3.next,a7.next⟩,⟨11,1,a2.next,a3.next⟩,⟨8,1,a0.next,a2.next⟩,⟨3,1,M.next,a0.next⟩,⟨2,1,M.next,M.next⟩]++M.hide) a4.log)),qS 46 b1 0 (.agg ⟨[i64 (aD k N),i64 (aD (aM k 13) N),i64 (aD (aM k 170) 5),i64 (aD (aM k 900) 9)]⟩) (aB.mk (aB.mk a4.blks a4.next (aV 0 [⟨14,1,a3.next,a7.next⟩,⟨11,1,a2.next,a3.next⟩,⟨8,1,a0.next,a2.next⟩,⟨3,1,M.next,a0.next⟩,⟨2,1,M.next,M.next⟩]++M.hide) a4.log).blks (aB.mk a4.blks a4.next (aV 0 [⟨14,1,a3.next,a7.next⟩,⟨11,1,a2.next,a3.next⟩,⟨8,1,a0.next,a2.next⟩,⟨3,1,M.next,a0.next⟩,⟨2,1,M.next,M.next⟩]++M.hide) a4.log).next M.hide (aB.mk a4.blks a4.next (aV 0 [⟨14,1,a3.next,a7.next⟩,⟨11,1,a2.next,a3.next⟩,⟨8,1,a0.next,a2.next⟩,⟨3,1,M.next,a0.next⟩,⟨2,1,M.next,M.next⟩]++M.hide) a4.log).log) a6,qT (cZ [p] a6.log),qC 22 [i64 md,i64 3] (aB.mk a6.blks a6.next M.hide (a6.log++M.log)) (i64 (aD md 3)) b0,qF ((aD md 3)==(0:Int)),qC 22 [i64 md,i64 3] b0 (i64 (aD md 3)) a8,qF ((aD md 3)==(1:Int)),qC 22 [i64 k,i64 31] a8 (i64 (aD k 31)) b5,qT ((aD k 31)==(0:Int)),qC 22 [i64 (aM k 31),i64 3] b5 (i64 (aD (aM k 31) 3)) s4,qS 3 b1 3 (i64 (IntKind.wrap .i64 ((2147483647:Int)-(aD (aM k 31) 3)))) s4 f4,qL 24 p 1 f4 S,qL 46 b1 0 f4 (.agg ⟨[i64 (aD k N),i64 (aD (aM k 13) N),i64 (aD (aM k 170) 5),i64 (IntKind.wrap .i64 ((2147483647:Int)-(aD (aM k 31) 3)))]⟩),.eq (bH prog 24 1 [(0,(.agg ⟨[i64 (aD k N),i64 (aD (aM k 13) N),i64 (aD (aM k 170) 5),i64 (IntKind.wrap .i64 ((2147483647:Int)-(aD (aM k 31) 3)))]⟩))] f4) (1,.val (aC g2 0 1 2),c5),.q (.append [24,24] S (aC g2 0 1 2) c5) ((bif g5 then 1 else 2),.val b3,c1),qS 24 p 1 b3 c1 c2]):=by cases g5<;>kernel_rfl
  dsimp only at a1
  have o2:aB.mk M.blks M.next M.hide []=R1:=k8.symm
  have o3:=pT ((X0).hide.trans (j6).hide.symm)
  have o4:=Gs 64 [⟨3,1,M.next,a0.next⟩,⟨2,1,M.next,M.next⟩] ((X0).hide.trans (j6).hide.symm)
  have o5:=pT ((X0).hide.trans (t5).hide.symm)
  have o6:=pT ((X0).hide.trans (t6).hide.symm)
  have o7:=pT ((X0).hide.trans (t7).hide.symm)
  have o8:=Dr (L:=(a6.log++M.log)) ((X0).hide.trans (t8).hide.symm)
  have o9:(aB.mk a6.blks a6.next a6.hide (a6.log++M.log))=p3:=c6.symm
  try rw[o2] at a1
  try rw[o3] at a1
  try rw[o4] at a1
  try rw[o5] at a1
  try rw[o6] at a1
  try rw[o7] at a1
  try rw[o8] at a1
  try rw[o9] at a1
  obtain⟨T1,h1,h2⟩:=Rd.told aG aF (fun B=>lV (gH 22 Xs (gL _))) (fun _ _=>rfl) a1 (hw (bT g8) (hk (bT g8) (hk (bT x0) (hk (dE (by omega) (by simp at g8;omega)) (hk (eO (aN X0 hld0)) (hk (lC bQ g6 rfl) (hk (aK rfl x5 x1 u0) (hk (lC bQ (bV.2 ⟨dC (by simp;omega),v8⟩) rfl) (hk (lG k6) (hk (aK rfl x6 x2 u2) (hk (aK rfl x7 x3 u3) (hk (aK rfl x8 x4 u4) (hk (bN (by rw[<-e5,<-i7];kernel_rfl) xAc) (hk (dB x9) (hk (eA (by rw[k5];simp<;>omega)) (hk (aK rfl k7 k4 j8) (hk (bF cc2) (hk (aK rfl e3 e2 d4) (hk (bF cc3) (hk (aK rfl j1 j0 i6) (hk (bT cc4) (hk (aK rfl K0 J2 G2) (hk (dB w4) (hk (lC nL c3 rfl) (hk (lA ⟨tL,nT⟩ v1 rfl) (hk (bN (by rw[<-b2,<-m7];kernel_rfl) xAc) (hk (kB o1 (by cases g5<;>simp)) (hk (dB w7) hn))))))))))))))))))))))))))))
  exact⟨T1,c2,b3,h1,h2,t4,h8,v7,k2,s1.less (by intro x hx;simp only [List.mem_cons,List.not_mem_nil,or_false] at hx;rcases hx with rfl|rfl<;>simp)⟩
 ·intro cc2 cc3 cc4 hld0
  obtain⟨e4,m4,a8,e3,e2,d4,a5,b8,d2⟩:=aL (x:=(md,3)) f2 jV (⟨⟨_,_,rfl,rfl,rfl⟩,rfl⟩)
  have c8:=j3.ext a5
  have d6:=a5.old j9
  have d7:=a5.old k0
  have b9:=a5.old e6
  have b7:e4=(i64 (aD md 3)):=d2
  subst b7
  have d3:=j4.trans a5
  obtain⟨j2,s9,b5,j1,j0,i6,a9,d9,i3⟩:=aL (x:=(k,31)) b8 jV (⟨⟨_,_,rfl,rfl,rfl⟩,rfl⟩)
  have i2:=c8.ext a9
  have g3:=a9.old d6
  have h4:=a9.old d7
  have g4:=a9.old b9
  have d5:j2=(i64 (aD k 31)):=i3
  subst d5
  have h0:=d3.trans a9
  obtain⟨p5,s3,e8,y4,z1,l7,A1⟩:=bC d9 ⟨[i64 (aD k N),i64 (aD (aM k 13) N),i64 (aD (aM k 170) 5),i64 (aD (aM k 900) 9)],46,4,0,true⟩
  have L8:M0.next<=p5:=(lQ e8 h0:)
  have F8:=fJ g3 e8
  have dr6b146:=fJ h4 e8
  have db69b146:=fJ g4 e8
  have k9:=i2.new e8 l7
  have c7:=l7.old g3
  have k1:=l7.old h4
  have G7:=l7.old g4
  have E3:=h0.trans l7
  obtain⟨q4,f7,f4,w4,E6,A4,l0,r0,L4⟩:=fX (P:=prog) (sT:=24) (xT:=24) (y:=32) (c:=2) k9 E3 A1 (by intro x hx;simp only [List.mem_cons,List.not_mem_nil,or_false] at hx;rcases hx with rfl|rfl|rfl|rfl<;>first|exact aB.lt_of_get z1|exact aB.lt_of_get G7|exact aB.lt_of_get c7|exact aB.lt_of_get k1) (by kernel_rfl) (by kernel_rfl) (by kernel_rfl) (by kernel_rfl) (by decide) (by decide) rfl k3 z1 (o:=0) (new:= [i64 (aD k N),i64 (aD (aM k 13) N),i64 (aD (aM k 170) 5),i64 (aD (aM k 900) 9)]) rfl rfl rfl
  have h5:=r0 _ _ c7 (by simp)
  have c3:=r0 _ _ k1 (by simp)
  obtain⟨c5,K2,H2,r4,E9,h7,M5⟩:=aZ (o:=1) (v:=f7) (new:= [i64 N,f7]) E6 np A4 Qg h5 (by rw[cJ l0.isCell];rfl) (by rw[cJ l0.isCell];show(isCell _&&true)=true;rw[l0.isCell];rfl) (Nat.zero_le _) (xAd rfl) (by rw[cJ l0.isCell];rfl)
  have D1:=l0.keep (by simp) (fun id h _=>r4 id h)
  have e7:=(r4 _ (Ne.symm j7)).trans c3
  have a1:oR prog [] 100 Tryz.f9 (q9.loopAt 0) [(1,(aC bb o m c)),(2,(i64 md)),(6,(pt r6 0)),(7,(pt p 0)),(8,(i64 (i:Int)))] M [aQ 10,aQ 12,aQ 15,aQ 16,aQ 22,aR 24 (i64 k),aR 32 (i64 N),bJ 34 (i64 (aD k N)) a0,aR 42 (i64 N),bJ 44 (i64 (aD (aM k 13) N)) a2,bJ 50 (i64 (aD (aM k 170) 5)) a3,bJ 56 (i64 (aD (aM k 900) 9)) a7,bJ 60 (pt b1 0) (aB.mk a4.blks a4.next (aV 0 [⟨14,1,a3.next,a7.next⟩,⟨11,1,a2.next,a3.next⟩,⟨8,1,a0.next,a2.next⟩,⟨3,1,M.next,a0.next⟩,⟨2,1,M.next,M.next⟩]++M.hide) a4.log),jE 62 a6,bJ 66 (i64 (aD md 3)) b0,aO 69,bJ 73 (i64 (aD md 3)) a8,aO 76,bJ 80 (i64 (aD k 31)) b5,aO 83,aR 87 S,aR 89 (.agg ⟨[i64 (aD k N),i64 (aD (aM k 13) N),i64 (aD (aM k 170) 5),i64 (aD (aM k 900) 9)]⟩),bJ 91 (aC p5 0 1 2) s3,.at 93 ((bif q4 then 1 else 2),.val f7,f4),jE 97 c5] [1,2,6,7,8]=some (.normal,[some (aC bb o m c),some (i64 md),some (pt r6 0),some (pt p 0),some (i64 (IntKind.wrap .i64 ((i:Int)+(1:Int))))],c5,[qT (decide ((i:Int)<(m:Int))),qT (decide ((i:Int)<(m:Int))),qT (decide ((i:Int)<(m:Int))),qT (decide ((i:Int)<(40:Int))),.q (.inb (i:Int) m) (eD true),qL 3 bb (o+((i:Int):Int).toNat*1) M (i64 k),qL 3 p 0 (aB.mk M.blks M.next M.hide []) (i64 N),qC 22 [i64 k,i64 N] (aB.mk M.blks M.next M.hide []) (i64 (aD k N)) a0,qL 3 p 0 (aB.mk a0.blks a0.next (aV 64 [⟨3,1,M.next,a0.next⟩,⟨2,1,M.next,M.next⟩]++M.hide) a0.log) (i64 N),qT (Nat.blt p M.next),qC 22 [i64 (aM k 13),i64 N] (aB.mk a0.blks a0.next M.hide a0.log) (i64 (aD (aM k 13) N)) a2,qC 22 [i64 (aM k 170),i64 5] (aB.mk a2.blks a2.next M.hide a2.log) (i64 (aD (aM k 170) 5)) a3,qC 22 [i64 (aM k 900),i64 9] (aB.mk a3.blks a3.next M.hide a3.log) (i64 (aD (aM k 900) 9)) a7,.eq (cM prog 46 (aB.mk a7.blks a7.next (aV 0 [⟨14,1,a3.next,a7.next⟩,⟨11,1,a2.next,a3.next⟩,⟨8,1,a0.next,a2.next⟩,⟨3,1,M.next,a0.next⟩,⟨2,1,M.next,M.next⟩]++M.hide) a7.log)) (1,.val (pt b1 0),(aB.mk a4.blks a4.next (aV 0 [⟨14,1,a3.next,a7.next⟩,⟨11,1,a2.next,a3.next⟩,⟨8,1,a0.next,a2.next⟩,⟨3,1,M.next,a0.next⟩,⟨2,1,M.next,M.next⟩]++M.hide) a4.log)),qS 46 b1 0 (.agg ⟨[i64 (aD k N),i64 (aD (aM k 13) N),i64 (aD (aM k 170) 5),i64 (aD (aM k 900) 9)]⟩) (aB.mk (aB.mk a4.blks a4.next (aV 0 [⟨14,1,a3.next,a7.next⟩,⟨11,1,a2.next,a3.next⟩,⟨8,1,a0.next,a2.next⟩,⟨3,1,M.next,a0.next⟩,⟨2,1,M.next,M.next⟩]++M.hide) a4.log).blks (aB.mk a4.blks a4.next (aV 0 [⟨14,1,a3.next,a7.next⟩,⟨11,1,a2.next,a3.next⟩,⟨8,1,a0.next,a2.next⟩,⟨3,1,M.next,a0.next⟩,⟨2,1,M.next,M.next⟩]++M.hide) a4.log).next M.hide (aB.mk a4.blks a4.next (aV 0 [⟨14,1,a3.next,a7.next⟩,⟨11,1,a2.next,a3.next⟩,⟨8,1,a0.next,a2.next⟩,⟨3,1,M.next,a0.next⟩,⟨2,1,M.next,M.next⟩]++M.hide) a4.log).log) a6,qT (cZ [p] a6.log),qC 22 [i64 md,i64 3] (aB.mk a6.blks a6.next M.hide (a6.log++M.log)) (i64 (aD md 3)) b0,qF ((aD md 3)==(0:Int)),qC 22 [i64 md,i64 3] b0 (i64 (aD md 3)) a8,qF ((aD md 3)==(1:Int)),qC 22 [i64 k,i64 31] a8 (i64 (aD k 31)) b5,qF ((aD k 31)==(0:Int)),qL 24 p 1 b5 S,qL 46 b1 0 b5 (.agg ⟨[i64 (aD k N),i64 (aD (aM k 13) N),i64 (aD (aM k 170) 5),i64 (aD (aM k 900) 9)]⟩),.eq (bH prog 24 1 [(0,(.agg ⟨[i64 (aD k N),i64 (aD (aM k 13) N),i64 (aD (aM k 170) 5),i64 (aD (aM k 900) 9)]⟩))] b5) (1,.val (aC p5 0 1 2),s3),.q (.append [24,24] S (aC p5 0 1 2) s3) ((bif q4 then 1 else 2),.val f7,f4),qS 24 p 1 f7 f4 c5]):=by cases q4<;>kernel_rfl
  dsimp only at a1
  have o2:aB.mk M.blks M.next M.hide []=R1:=k8.symm
  have o3:=pT ((X0).hide.trans (j6).hide.symm)
  have o4:=Gs 64 [⟨3,1,M.next,a0.next⟩,⟨2,1,M.next,M.next⟩] ((X0).hide.trans (j6).hide.symm)
  have o5:=pT ((X0).hide.trans (t5).hide.symm)
  have o6:=pT ((X0).hide.trans (t6).hide.symm)
  have o7:=pT ((X0).hide.trans (t7).hide.symm)
  have o8:=Dr (L:=(a6.log++M.log)) ((X0).hide.trans (t8).hide.symm)
  have o9:(aB.mk a6.blks a6.next a6.hide (a6.log++M.log))=p3:=c6.symm
  try rw[o2] at a1
  try rw[o3] at a1
  try rw[o4] at a1
  try rw[o5] at a1
  try rw[o6] at a1
  try rw[o7] at a1
  try rw[o8] at a1
  try rw[o9] at a1
  obtain⟨T1,h1,h2⟩:=Rd.told aG aF (fun B=>lV (gH 22 Xs (gL _))) (fun _ _=>rfl) a1 (hw (bT g8) (hk (bT g8) (hk (bT x0) (hk (dE (by omega) (by simp at g8;omega)) (hk (eO (aN X0 hld0)) (hk (lC bQ g6 rfl) (hk (aK rfl x5 x1 u0) (hk (lC bQ (bV.2 ⟨dC (by simp;omega),v8⟩) rfl) (hk (lG k6) (hk (aK rfl x6 x2 u2) (hk (aK rfl x7 x3 u3) (hk (aK rfl x8 x4 u4) (hk (bN (by rw[<-e5,<-i7];kernel_rfl) xAc) (hk (dB x9) (hk (eA (by rw[k5];simp<;>omega)) (hk (aK rfl k7 k4 j8) (hk (bF cc2) (hk (aK rfl e3 e2 d4) (hk (bF cc3) (hk (aK rfl j1 j0 i6) (hk (bF cc4) (hk (lC nL g3 rfl) (hk (lA ⟨tL,nT⟩ g4 rfl) (hk (bN (by rw[<-e8,<-y4];kernel_rfl) xAc) (hk (kB w4 (by cases q4<;>simp)) (hk (dB K2) hn))))))))))))))))))))))))))
  exact⟨T1,c5,f7,h1,h2,E9,h7,H2,e7,D1.less (by intro x hx;simp only [List.mem_cons,List.not_mem_nil,or_false] at hx;rcases hx with rfl|rfl<;>simp)⟩
theorem r9xa(p r6:Nat)(a:Option Addr)(m c i:Nat)(md:Int){M:aB}(a2:a.isNone=true->m=0/\c=0)(a0:(decide ((i:Int)<(m:Int)))=true)(a1:(decide ((i:Int)<(40:Int)))=false): ∃T1,Rd prog [] (q9.loopAt 0) Tryz.f9.ntmps (fr [(1,(.slice a m c)),(2,(i64 md)),(6,(pt r6 0)),(7,(pt p 0)),(8,(i64 (i:Int)))]) M (.exit 0) T1 M/\ [6,7].map T1.get= [some (pt r6 0),some (pt p 0)]:=by
 exact Rd.told (tb:=[]) (n:=60) (F:=[aQ 5,aQ 10,aQ 12,aQ 15,aO 16]) aG aF (aI prog) (fun _ _=>rfl) (by kernel_rfl) (hk (lN a2) (hw (bT a0) (hk (bT a0) (hk (bF a1) hn))))
theorem r9xb(p r6:Nat)(a:Option Addr)(m c i:Nat)(md:Int){M:aB}(a1:a.isNone=true->m=0/\c=0)(a0:(decide ((i:Int)<(m:Int)))=false): ∃T1,Rd prog [] (q9.loopAt 0) Tryz.f9.ntmps (fr [(1,(.slice a m c)),(2,(i64 md)),(6,(pt r6 0)),(7,(pt p 0)),(8,(i64 (i:Int)))]) M (.exit 0) T1 M/\ [6,7].map T1.get= [some (pt r6 0),some (pt p 0)]:=by
 exact Rd.told (tb:=[]) (n:=60) (F:=[aQ 5,aO 10,aO 12,aO 15]) aG aF (aI prog) (fun _ _=>rfl) (by kernel_rfl) (hk (lN a1) (hw (bF a0) (hk (bF a0) hn)))
def MkE(M0 M:aB)(p r6:Nat)(N:Int)(l:List E4):Prop:= ∃S,M.get p=some ⟨[i64 N,S],26,2,0,true⟩/\cR 46 4 M0 [p,r6] l.length ((l.map cD).flatten) S M
theorem step9(p r6 bb o m c i:Nat)(N md k:Int){l:List E4}{M M0:aB}(hM:aA M)(X0:Ext M0 M)(np:M0.next<=p)(hE:MkE M0 M p r6 N l)(a1:M.get r6=some ⟨[i64 0,eW],26,2,0,true⟩)(a0:p≠r6)(a2:(decide (0<N)&&decide (N<2^62))=true)(hl:l.length<1073741824)(hi:i<m)(h40:i<40)(a7:bA prog 3 ⟨bb,o+((i:Int):Int).toNat*1,none⟩ M0=some (i64 k)):
  ∃T1 M',Rd prog [] (q9.loopAt 0) Tryz.f9.ntmps (fr [(1,(aC bb o m c)),(2,(i64 md)),(6,(pt r6 0)),(7,(pt p 0)),(8,(i64 (i:Int)))]) M .normal T1 M'/\ [1,2,6,7,8].map T1.get= [some (aC bb o m c),some (i64 md),some (pt r6 0),some (pt p 0),some (i64 (IntKind.wrap .i64 ((i:Int)+(1:Int))))]/\Ext M0 M'/\aA M'/\MkE M0 M' p r6 N (l++ [oV N md k])/\M'.get r6=some ⟨[i64 0,eW],26,2,0,true⟩:=by
 obtain⟨S,gp,hS⟩:=hE
 have hc:decide ((i:Int)<(m:Int))=true:=xAb (by omega)
 have a6:decide ((i:Int)<(40:Int))=true:=xAb (by omega)
 have a5: ∀{S':Value} {M':aB} {es:List Value},es=cD (oV N md k)->M'.get p=some ⟨[i64 N,S'],26,2,0,true⟩->cR 46 4 M0 [p,r6] (l.length+1) ((l.map cD).flatten++es) S' M'->MkE M0 M' p r6 N (l++ [oV N md k]):=fun{S' M' es} he h5 h7=>by
  subst he
  refine⟨S',h5,?_⟩
  rw[List.length_append,List.map_append,List.flatten_append]
  simpa using h7
 cases a3:(aD md 3)==(0:Int) with
 |true=>
  cases hz:(aD k 31)==(0:Int) with
  |true=>
   obtain⟨T1,M',S',h1,h2,h3,h4,h5,h6,h7⟩:=(zP p r6 bb o m c i N md k S l hM X0 np gp a1 a0 a2 hS hl hc a6).1 a3 hz a7
   exact⟨T1,M',h1,h2,h3,h4,a5 (by simp only [oV,a3,hz,cond_true,cond_false]) h5 h7,h6⟩
  |false=>
   obtain⟨T1,M',S',h1,h2,h3,h4,h5,h6,h7⟩:=(zP p r6 bb o m c i N md k S l hM X0 np gp a1 a0 a2 hS hl hc a6).2.1 a3 hz a7
   exact⟨T1,M',h1,h2,h3,h4,a5 (by simp only [oV,a3,hz,cond_true,cond_false]) h5 h7,h6⟩
 |false=>
  cases a4:(aD md 3)==(1:Int) with
  |true=>
   cases hz:(aD k 31)==(0:Int) with
   |true=>
    obtain⟨T1,M',S',h1,h2,h3,h4,h5,h6,h7⟩:=(zP p r6 bb o m c i N md k S l hM X0 np gp a1 a0 a2 hS hl hc a6).2.2.1 a3 a4 hz a7
    exact⟨T1,M',h1,h2,h3,h4,a5 (by simp only [oV,a3,a4,hz,cond_true,cond_false]) h5 h7,h6⟩
   |false=>
    obtain⟨T1,M',S',h1,h2,h3,h4,h5,h6,h7⟩:=(zP p r6 bb o m c i N md k S l hM X0 np gp a1 a0 a2 hS hl hc a6).2.2.2.1 a3 a4 hz a7
    exact⟨T1,M',h1,h2,h3,h4,a5 (by simp only [oV,a3,a4,hz,cond_true,cond_false]) h5 h7,h6⟩
  |false=>
   cases hz:(aD k 31)==(0:Int) with
   |true=>
    obtain⟨T1,M',S',h1,h2,h3,h4,h5,h6,h7⟩:=(zP p r6 bb o m c i N md k S l hM X0 np gp a1 a0 a2 hS hl hc a6).2.2.2.2.1 a3 a4 hz a7
    exact⟨T1,M',h1,h2,h3,h4,a5 (by simp only [oV,a3,a4,hz,cond_true,cond_false]) h5 h7,h6⟩
   |false=>
    obtain⟨T1,M',S',h1,h2,h3,h4,h5,h6,h7⟩:=(zP p r6 bb o m c i N md k S l hM X0 np gp a1 a0 a2 hS hl hc a6).2.2.2.2.2 a3 a4 hz a7
    exact⟨T1,M',h1,h2,h3,h4,a5 (by simp only [oV,a3,a4,hz,cond_true,cond_false]) h5 h7,h6⟩
theorem loop9{p r6:Nat}{a:Option Addr}{c:Nat}{N md:Int}{ns:List Int}{M0 M:aB}(hM:aA M)(X:Ext M0 M)(hs:aH ns (.slice a ns.length c) M0)(np:M0.next<=p)(gp:M.get p=some ⟨[i64 N,eW],26,2,0,true⟩)(a1:M.get r6=some ⟨[i64 0,eW],26,2,0,true⟩)(a0:p≠r6)(a2:(decide (0<N)&&decide (N<2^62))=true):
  ∃M',bL prog [] (q9.loopAt 0) Tryz.f9.ntmps (fr [(1,.slice a ns.length c),(2,i64 md),(6,pt r6 0),(7,pt p 0),(8,i64 ((0:Nat):Int))]) M (.exit 0) (fr [(6,pt r6 0),(7,pt p 0)]) M'/\Ext M0 M'/\aA M'/\M'.get r6=some ⟨[i64 0,eW],26,2,0,true⟩/\MkE M0 M' p r6 N ((ns.take 40).map (oV N md)):=by
 have hlen:=hs.len
 obtain⟨_,M',h1,h2,h3,h4,h5⟩:=bL.for (P:=prog) (GL:= []) (b:=q9.loopAt 0) (nt:=Tryz.f9.ntmps) (id:=0) (σ:=Unit) (n:=(ns.take 40).length) (Inv:=fun i _ M1=>Ext M0 M1/\aA M1/\M1.get r6=some ⟨[i64 0,eW],26,2,0,true⟩/\MkE M0 M1 p r6 N ((ns.take i).map (oV N md)))
  (F:=fun i _=> [(1,.slice a ns.length c),(2,i64 md),(6,pt r6 0),(7,pt p 0),(8,i64 ((i:Nat):Int))])
  (O:=fun _=> [(6,pt r6 0),(7,pt p 0)])
  (by
   rintro i _ M1 hi ⟨X1,a3,a4,hE⟩
   rw[List.length_take] at hi
   obtain⟨bb,o,rfl,_⟩:=bU hs (by omega)
   have ht:ns[i]?=some ns[i]:=xAe (by omega)
   obtain⟨T1,M2,h1,h2,h3,h4,h5,h6⟩:=step9 p r6 bb o ns.length c i N md ns[i] a3 X1 np hE a4 a0 a2 (by simp;omega) (by omega) (by omega) (iX (P:=prog) (ty:=3) hs ht rfl bQ)
   rw[bD (by omega)] at h2
   refine⟨(),T1,M2,h1,h2,h3,h4,h6,?_⟩
   rw[List.take_succ_eq_append_getElem (by omega),List.map_append]
   exact h5)
  (by
   rintro _ M1 ⟨X1,a3,a4,hE⟩
   by_cases h:ns.length<=40
   ·rw[List.take_of_length_le h]
    exact r9xb p r6 a ns.length c ns.length md hs.ln (xAa (by omega))
   ·rw[List.length_take,Nat.min_eq_left (by omega)]
    exact r9xa p r6 a ns.length c 40 md hs.ln (xAb (by omega)) (xAa (by omega)))
  (ns.take 40).length 0 (by omega) (s:=()) (M:=M) ⟨X,hM,a1,eW,gp,.inl ⟨rfl,rfl,rfl⟩⟩
 refine⟨M',h1,h2,h3,h4,?_⟩
 rw[List.length_take,<-List.take_take,List.take_length] at h5
 exact h5
open Tryz
theorem rK9:Tryz.f9.results= #[.cell 6 26]:=by kernel_rfl
theorem Wp{M0 M M':aB}{S:Value}{l:List E4}{p r6:Nat}(h:cR 46 4 M0 [p,r6] l.length ((l.map cD).flatten) S M)(hk: ∀id,id≠r6->M'.get id=M.get id)(hl:l.length<=9223372036854775807):aS l S (hid M0.next M'):=by
 rcases h with⟨rfl,h0,_⟩|⟨b,rfl,_,_,h3,h5,h6⟩
 ·rw[List.eq_nil_of_length_eq_zero h0];exact aJ.nil none
 ·exact aJ.of_blk' (jJ h3 ((hk b (fun e=>h5 (by simp [e]))).trans h6)) rfl rfl (fun _ _=>rfl) hl
theorem w9(size:Int)(b0:Option Addr)(b2:Nat)(ns:List Int)(md:Int){M:aB}(hM:aA M)(e5:aH ns (.slice b0 ns.length b2) M): ∃v_ M',Ev prog [] 9 [i64 size,.slice b0 ns.length b2,i64 md] M v_ M'/\Ext M M'/\aA M'/\iE mN (kQ size,wQ size ns md) M.next v_ M':=by
 obtain⟨b1,M2,c9,d7,g5,E6,e3⟩:=bC hM ⟨[i64 0,eW],26,2,0,true⟩
 have e7:M.next<=b1:=by rw[<-c9];exact(Ext.refl M).next
 have X9:=(Ext.refl M).trans E6
 obtain⟨f2,f3,a6,f0,e6,d6,c6,b8,d1⟩:=aL (x:=(size,12)) e3 jV (⟨⟨_,_,rfl,rfl,rfl⟩,rfl⟩)
 have d0:=c6.old g5
 have b4:f2=(i64 (aD size 12)):=d1
 subst b4
 have c8:=X9.trans c6
 obtain⟨a2,a7,a3,b3,d8,c7,b9⟩:=bC b8 ⟨[i64 0,eW],26,2,0,true⟩
 have a4:=lQ a3 c8
 have a0:=fJ d0 a3
 have d9:=c7.old d0
 have d2:=c8.trans c7
 obtain⟨a8,f1,e0,c3,d3,c0,e8⟩:=aZ (o:=0) (v:=(.agg ⟨[i64 (IntKind.wrap .i64 ((1:Int)+(aD size 12))),eW]⟩)) (new:= [i64 (IntKind.wrap .i64 ((1:Int)+(aD size 12))),eW]) d2 a4 b9 uV d8 rfl rfl (Nat.zero_le _) (xAd rfl) rfl
 have e1:=(c3 _ a0).trans d9
 obtain⟨a5,b7,d4,c1,b5,a1,b6,c5⟩:=loop9 (md:=md) c0 d3 e5 a4 (N:=(kQ size:Int)) (by rw[<-aAr];exact e0) e1 (Ne.symm a0) (by have:=mT size;simp only [Bool.and_eq_true,decide_eq_true_eq];omega)
 have e4:isCell a1=true:=cR.isCell c5
 obtain⟨a9,q49,e2,c4,d5,c2,e9⟩:=aZ (o:=0) (v:=(.agg ⟨[i64 (kQ size:Int),a1]⟩)) (new:= [i64 (kQ size:Int),a1]) d4 e7 c1 uV b5 rfl (by show(isCell (i64 _)&&(isCell a1&&true))=true;rw[e4];rfl) (Nat.zero_le _) (xAd rfl) rfl
 exact⟨.agg ⟨[i64 (kQ size:Int),a1]⟩,a9,Ev.told_cell (tb:=[0]) (n:=60) (F:=[bJ 1 (pt b1 0) M2,bJ 5 (i64 (aD size 12)) a6,bJ 11 (pt a2 0) a7,jE 13 a8,.blk 16 [1,2,6,7,8] .normal (fr [(6,(pt b1 0)),(7,(pt a2 0))]) a5,aR 18 (.agg ⟨[i64 (kQ size:Int),a1]⟩),jE 20 a9]) aG aF Tryz.func9 q9_ok (by kernel_rfl) rK9 (fun B=>wR (gH 22 Xs (gL _)) 0 b7) (fun _ h=>bZ h) (by kernel_rfl) (mR (a:=⟨b1,0,none⟩) zB uV e2 rfl) (hq (.eq (cM prog 26 M) (1,.val (pt b1 0),M2)) (bN (by rw[<-c9,<-d7];kernel_rfl) xAc) (hq (qC 22 [i64 size,i64 12] M2 (i64 (aD size 12)) a6) (aK rfl f0 e6 d6) (hq (.eq (cM prog 26 a6) (1,.val (pt a2 0),a7)) (bN (by rw[<-a3,<-b3];kernel_rfl) xAc) (hq (qS 26 a2 0 (.agg ⟨[i64 (IntKind.wrap .i64 ((1:Int)+(aD size 12))),eW]⟩) a7 a8) (dB f1) (hq (.blk 0 (.loop (q9.loopAt 0)) Tryz.f9.ntmps [1,2,6,7,8] [some (.slice b0 ns.length b2),some (i64 md),some (pt b1 0),some (pt a2 0),some (i64 0)] a8 .normal (fr [(6,(pt b1 0)),(7,(pt a2 0))]) a5) (fB rfl) (hq (qL 26 a2 0 a5 (.agg ⟨[i64 (kQ size:Int),a1]⟩)) (lA ⟨zB,uV⟩ b6 rfl) (hq (qS 26 b1 0 (.agg ⟨[i64 (kQ size:Int),a1]⟩) a5 a9) (dB q49) hn))))))),d5,c2,⟨_,rfl,Wp c5 c4 (Nat.le_trans (by rw[List.length_map,List.length_take];exact Nat.min_le_left _ _:(List.map (oV (kQ size:Int) md) (ns.take 40)).length<=40) (by decide))⟩⟩
abbrev Q9:=FC (Vr pI aH pI) (iE mN) (fun x=>(kQ x.1,wQ x.1 x.2.1 x.2.2))
theorem con9{x:Int×List Int×Int}{lv:List Value}{M:aB}(hM:aA M)(h:(Vr pI aH pI) x lv M): ∃v M',kR prog [] 9 Q9 lv M v M':=by
 refine FC.con h ?_
 obtain⟨g0,g1,g2,rfl,k0,k1,k2⟩:=h
 obtain⟨size,ns,md⟩:=x
 obtain rfl:=k0
 obtain rfl:=k2
 obtain⟨a,c,rfl⟩:=aJ.form k1
 obtain⟨v,M',h1,h2,_,h3⟩:=w9 size a c ns md hM k1
 exact⟨v,M',h1,h2,h3⟩
end Go.Proofs.YtdaglldahidmbaaGreat
