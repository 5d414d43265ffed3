/-
  Package hier: each of its laws for every argument; no conditions. The last text states which.
-/
import Derived.Test.YtdaglldahidmbaaGVP4
import Derived.Test.YtdaglldahidmbaaGAmBk
import Derived.Test.YtdaglldahidmbaaGAmMk
set_option linter.unusedVariables false
set_option linter.unusedSimpArgs false
open Go Go.Am Go.Proofs
namespace Go.Proofs.Ytdaglldahidmbaa
set_option maxRecDepth 100000
theorem Rh:(Try.prog.underlying 4).map dR=some false:=by kernel_rfl
theorem dS4:(Try.prog.info? 4).map (·.size)=some 1:=by kernel_rfl
theorem r23(D E n ab bb o m c i p q w:Nat)(x:Int)(cd ce:List Value)(ad:eR){M M0:aA}(hM:aB M)(X0:Ext M0 M)(hD:M0.next<=D)(hE:M0.next<=E)(gD:M.get D=some ⟨cd,3,1,0,true⟩)(gE:M.get E=some ⟨ce,22,1,0,true⟩)(b8:D≠E)(b4:eP 108 ad (pt ab 0) M0)(d6:rA ad)(b7:(decide ((i:Int)<(m:Int)))=true)(b5:bI Try.prog 3 ⟨bb,o+((i:Int):Int).toNat*1,none⟩ M0=some (i64 x))(a4:0<=(((dQ ad x:Nat):Int):Int)/\(((dQ ad x:Nat):Int):Int)<801)(d4:(ce)[0+(((dQ ad x:Nat):Int):Int).toNat*1]?=some (aC D p q w))(a5:q+1<w/\p+(q+1)*1<=(cd).length/\q<1073741824)(b6:0+(((dQ ad x:Nat):Int):Int).toNat*1+1<=(ce).length): ∃T1 M',Rd Try.prog [] (q52.loopAt 0) Try.f52.ntmps (fr [(1,(.func (.func 54) ⟨[.agg ⟨[i64 (n:Int),pt ab 0]⟩]⟩ ⟨[]⟩)),(5,(aC D 0 m (m+1))),(6,(aC E 0 801 802)),(18,(aC bb o m c)),(19,(i64 (m:Int))),(20,(i64 (i:Int)))]) M .normal T1 M'/\ [1,5,6,18,19,20].map T1.get= [some (.func (.func 54) ⟨[.agg ⟨[i64 (n:Int),pt ab 0]⟩]⟩ ⟨[]⟩),some (aC D 0 m (m+1)),some (aC E 0 801 802),some (aC bb o m c),some (i64 (m:Int)),some (i64 (IntKind.wrap .i64 ((i:Int)+(1:Int))))]/\Ext M0 M'/\aB M'/\M'.get D=some ⟨splice cd (p+q*1) [i64 x],3,1,0,true⟩/\M'.get E=some ⟨splice ce (0+(((dQ ad x:Nat):Int):Int).toNat*1) [aC D p (q+1) w],22,1,0,true⟩/\ ∀id k,M.get id=some k->id≠D->id≠E->M'.get id=some k:=by
 obtain⟨w1,N2,M3,p4,l5,e6,E7,d3,F9⟩:=aM (x:=((n,ad),x)) hM Xj (⟨⟨_,_,rfl,⟨_,rfl,AP.Ext (R:=(eP 108)) b4 X0⟩,rfl⟩,d6⟩)
 have c5:=E7.old gD
 have b9:=E7.old gE
 have c4:w1=(i64 ((dQ ad x:Nat):Int)):=F9
 subst c4
 have c0:=X0.trans E7
 obtain⟨a8,a6,a9,b0,c6,a2,b1⟩:=bE d3 ⟨[i64 x],3,1,0,true⟩
 have c7:=a2.old c5
 have c8:=a2.old b9
 have c1:=c0.trans a2
 obtain⟨a7,q26,c9,a0,c2,b2,d7⟩:=zV (P:=Try.prog) (sT:=22) (xT:=22) (elem:=3) (w:=1) (y:=8) (cx:=2) c1 hD b1 (by kernel_rfl) (by kernel_rfl) (by kernel_rfl) (by decide) (by decide) a5.2.2 c6 (ox:=0) (new:= [i64 x]) rfl rfl rfl c7 (wI (n:=q*1) (k:=p) (l:=cd) (by have:=a5.2.1;omega)) rfl rfl (Nat.zero_le _) a5.1 a5.2.1
 have d0:=(a0 _ (Ne.symm b8)).trans c8
 obtain⟨a3,d9,d1,a1,c3,b3,d8⟩:=aZ (o:=0+(((dQ ad x:Nat):Int):Int).toNat*1) (v:=(aC D p (q+1) w)) (new:=splice ce (0+(((dQ ad x:Nat):Int):Int).toNat*1) [aC D p (q+1) w]) c2 hE b2 Nm d0 rfl rfl (Nat.zero_le _) b6 rfl
 have d2:=(a1 _ b8).trans c9
 have d5: ∀id k,M.get id=some k->id≠D->id≠E->a3.get id=some k:=fun id k g h_D h_E=>by
  have g:=E7.old g
  have g:=a2.old g
  have g:=((fun id h _=>a0 id h) id h_D (aA.lt_of_get g)).trans g
  have g:=((fun id h _=>a1 id h) id h_E (aA.lt_of_get g)).trans g
  exact g
 obtain⟨T1,h1,h2⟩:=Rd.told (tb:=[]) (n:=60) (F:=[aP 2,aP 4,aR 6 (i64 x),bK 14 (i64 ((dQ ad x:Nat):Int)) M3,aP 26,aR 28 (aC D p q w),bK 32 (aC a8 0 1 2) a6,.at 34 (2,.val (aC D p (q+1) w),a7),aP 36,jJ 38 a3]) aG aF (fun B=>lQ (gP 54 Q54 (gS _))) (fun _ _=>rfl) (by kernel_rfl) (hk (bT b7) (hk (qI (i:Int) m (by omega) (by simp at b7;omega)) (hk (lD (aS X0 b5)) (hq (qC 54 [.agg ⟨[i64 (n:Int),pt ab 0]⟩,i64 x] M (i64 ((dQ ad x:Nat):Int)) M3) (aJ rfl p4 l5 e6) (hk (qI ((dQ ad x:Nat):Int) 801 a4.1 a4.2) (hq (qL 22 E (0+(((dQ ad x:Nat):Int):Int).toNat*1) M3 (aC D p q w)) (fF (bG (a:=⟨E,0+(((dQ ad x:Nat):Int):Int).toNat*1,none⟩) jU b9 d4)) (hq (.eq (bH Try.prog 22 1 [(0,(i64 x))] M3) (1,.val (aC a8 0 1 2),a6)) (bP (by rw[<-a9,<-b0];kernel_rfl) Nat.one_ne_zero) (hq (.q (.append [22,22] (aC D p q w) (aC a8 0 1 2) a6) (2,.val (aC D p (q+1) w),a7)) (kS q26 (Nat.succ_ne_zero _)) (hk (qI ((dQ ad x:Nat):Int) 801 a4.1 a4.2) (hq (qS 22 E (0+(((dQ ad x:Nat):Int):Int).toNat*1) (aC D p (q+1) w) a7 a3) (dA d9) hn))))))))))
 exact⟨T1,a3,h1,h2,c3,b3,d2,d1,d5⟩
theorem r23x(D E n ab:Nat)(a:Option Addr)(m c i:Nat){M:aA}(a0:(decide ((i:Int)<(m:Int)))=false): ∃T1,Rd Try.prog [] (q52.loopAt 0) Try.f52.ntmps (fr [(1,(.func (.func 54) ⟨[.agg ⟨[i64 (n:Int),pt ab 0]⟩]⟩ ⟨[]⟩)),(5,(aC D 0 m (m+1))),(6,(aC E 0 801 802)),(18,(.slice a m c)),(19,(i64 (m:Int))),(20,(i64 (i:Int)))]) M (.exit 0) T1 M/\ [5].map T1.get= [some (aC D 0 m (m+1))]:=by
 exact Rd.told (tb:=[]) (n:=60) (F:=[aO 2]) aG aF (aI Try.prog) (fun _ _=>rfl) (by kernel_rfl) (hk (bF a0) hn)
theorem Yy{a:Option Addr}{c D E n ab:Nat}{ad:eR}{vs:List Int}{M0 M:aA}(hM:aB M)(X:Ext M0 M)(hs:aL vs (.slice a vs.length c) M0)(a1:eP 108 ad (pt ab 0) M0)(a3:rA ad)(hl:vs.length<=60)(hD:M0.next<=D)(hE:M0.next<=E)(a7:D≠E)(gE:M.get E=some ⟨dN D (oN (gT ad vs)) (fun _=>0) 801,22,1,0,true⟩)(gD:M.get D=some ⟨List.replicate vs.length (i64 0),3,1,0,true⟩):
  ∃M',bN Try.prog [] (q52.loopAt 0) Try.f52.ntmps (fr [(1,(.func (.func 54) ⟨[.agg ⟨[i64 (n:Int),pt ab 0]⟩]⟩ ⟨[]⟩)),(5,aC D 0 vs.length (vs.length+1)),(6,aC E 0 801 802),(18,.slice a vs.length c),(19,i64 vs.length),(20,i64 ((0:Nat):Int))]) M (.exit 0) (fr [(5,aC D 0 vs.length (vs.length+1))]) M'/\Ext M0 M'/\aB M'/\M'.get D=some ⟨(sB ad vs).map i64,3,1,0,true⟩:=by
 have a2:=Ha a3 vs
 obtain⟨_,M',h1,h2,h3,h4,mem,h5,h6⟩:=bN.for (P:=Try.prog) (GL:= []) (b:=q52.loopAt 0) (nt:=Try.f52.ntmps) (id:=0) (σ:=Unit) (n:=vs.length) (Inv:=fun i _ M1=>Ext M0 M1/\aB M1/\M1.get E=some ⟨dN D (oN (gT ad vs)) (iR (iD ad vs) i) 801,22,1,0,true⟩/\ ∃mem,M1.get D=some ⟨mem,3,1,0,true⟩/\Bk (oN (gT ad vs)) 801 (iD ad vs) (fun j=>i64 ((vs[j]?).getD 0)) i mem)
  (F:=fun i _=> [(1,(.func (.func 54) ⟨[.agg ⟨[i64 (n:Int),pt ab 0]⟩]⟩ ⟨[]⟩)),(5,aC D 0 vs.length (vs.length+1)),(6,aC E 0 801 802),(18,.slice a vs.length c),(19,i64 vs.length),(20,i64 ((i:Nat):Int))])
  (O:=fun _=> [(5,aC D 0 vs.length (vs.length+1))])
  (by
   rintro i _ M1 hi ⟨X1,a5,a8,mem,a9,hB⟩
   obtain⟨bb,o,rfl,_⟩:=cF hs (by omega)
   have ht:vs[i]?=some vs[i]:=List.getElem?_eq_getElem hi
   have hk:dQ ad vs[i]=iD ad vs i:=by unfold iD;rw[ht];rfl
   have hle:=tD a3 vs[i]
   have a0:iD ad vs i<801:=by omega
   have a6:iR (iD ad vs) i (iD ad vs i)<oN (gT ad vs) (iD ad vs i):=by rw[yQ a0];exact Sd (iD ad vs) hi
   have hroom:=hB.room a0 a6
   have hc:=Cl (iD ad vs) i (iD ad vs i)
   have e0:0+(((dQ ad vs[i]:Nat):Int):Int).toNat*1=iD ad vs i:=by rw[hk];simp
   obtain⟨T1,M2,h1,h2,h3,h4,h5,h6,_⟩:=r23 D E n ab bb o vs.length c i (dS (oN (gT ad vs)) (iD ad vs i)) (iR (iD ad vs) i (iD ad vs i)) (oN (gT ad vs) (iD ad vs i)+1) vs[i] _ _ ad a5 X1 hD hE a9 a8 a7 a1 a3 (decide_eq_true (by omega)) (kM (P:=Try.prog) (ty:=3) hs ht rfl bV) (by omega) (by rw[e0];exact hQ _ _ _ a0) ⟨by omega,by omega,by omega⟩ (by rw[e0,fV];omega)
   rw[aX (by omega)] at h2
   rw[e0,uY D _ (iD ad vs) i 801 a0] at h6
   have a4:=hB.step a0 a6
   simp only [ht,Option.getD_some] at a4
   rw[show dS (oN (gT ad vs)) (iD ad vs i)+iR (iD ad vs) i (iD ad vs i)=dS (oN (gT ad vs)) (iD ad vs i)+iR (iD ad vs) i (iD ad vs i)*1 by omega] at a4
   exact⟨(),T1,M2,h1,h2,h3,h4,h6,_,h5,a4⟩)
  (by
   rintro _ M1 ⟨X1,a5,_⟩
   exact r23x D E n ab a vs.length c vs.length (M:=M1) (decide_eq_false (by omega)))
  vs.length 0 (by omega) (s:=()) (M:=M) ⟨X,hM,gE,_,gD,Bk.zero (by rw[a2];simp)⟩
 refine⟨M',h1,h2,h3,?_⟩
 rw[h5,Re h6]
theorem rK52:Try.f52.results= #[.tmp 4]:=by kernel_rfl
theorem w23(n ab:Nat)(ad:eR)(av:Option Addr)(cv:Nat)(vs:List Int){M:aA}(hM:aB M)(b3:aL vs (.slice av vs.length cv) M)(a6:eP 108 ad (pt ab 0) M)(a7:rA ad)(a1:vs.length<=60): ∃v_ M',Ev Try.prog [] 52 [.slice av vs.length cv,.func (.func 54) ⟨[.agg ⟨[i64 (n:Int),pt ab 0]⟩]⟩ ⟨[]⟩] M v_ M'/\Ext M M'/\aB M'/\iQ aL (sB ad vs) M.next v_ M':=by
 obtain⟨b1,M2,d2,d3,g5,E6,d6⟩:=sJ (P:=Try.prog) (t:=22) (elem:=3) (z:=(i64 0)) (n:=vs.length) hM (by kernel_rfl) (by kernel_rfl) (by omega)
 have c5:M.next<=b1:=by rw[<-d2];exact(Ext.refl M).next
 have X8:=(Ext.refl M).trans E6
 obtain⟨e1,e2,a8,d9,d7,d0,c1,b8,c6⟩:=aM (x:=(vs,n,ad)) d6 con75 (⟨⟨_,_,rfl,AP.Ext (R:=aL) b3 X8,_,rfl,_,rfl,AP.Ext (R:=(eP 108)) a6 X8⟩,a7,a1⟩)
 have b2:=c1.old g5
 have c3:uV (gT ad vs) e1 (cK [(0,M2.next)] a8):=lY c6
 obtain⟨a9,b6,a3⟩:=aH.form (l:=(gT ad vs).map fun k=>((k:Nat):Int)) c3
 rw[List.length_map,sD] at a3
 subst a3
 have c4:=X8.trans c1
 have ltb1M27:=aA.lt_of_get b2
 obtain⟨w25,e3,b4,e0,d8,d1,c2,b9,c7⟩:=aM (x:=((b1,vs.length),gT ad vs)) b8 Xo (⟨⟨_,_,rfl,⟨rfl,_,b2⟩,eO (R:=uV) c3⟩,by rw[sD];exact Nat.le_refl _,by rw[sD,Ha a7];exact Nat.le_refl _,a1⟩)
 have d4:=c2.old b2
 obtain⟨b0,a4,a2,a5⟩:=c7
 simp only [id,sD] at a4 a5
 subst a4
 have a0:b1≠b0:=by have:=aA.lt_of_get b2;omega
 have a2:=Nat.le_trans (c4).next a2
 have c8:=c4.trans c2
 obtain⟨b5,b7,c9,c0,d5⟩:=Yy b9 c8 b3 a6 a7 a1 c5 a2 a0 a5 d4
 exact⟨aC b1 0 vs.length (vs.length+1),b5,Ev.told_tmp (tb:=[0]) (n:=60) (F:=[aP 5,bK 7 (aC b1 0 vs.length (vs.length+1)) M2,bK 17 (.slice a9 801 b6) a8,bK 19 (aC b0 0 801 802) b4,aP 25,.blk 28 [1,5,6,18,19,20] .normal (fr [(5,(aC b1 0 vs.length (vs.length+1)))]) b5]) aG aF Try.func52 aAw (by kernel_rfl) rK52 (fun B=>zJ (gP 74 Q74 (gP 75 Q75 (gS _))) 0 b7) (fun _ h=>cD h) (by kernel_rfl) (hk (lN b3.ln) (hq (.eq (bU Try.prog 22 (i64 (vs.length:Int)) (i64 (vs.length:Int)) M) (1,.val (aC b1 0 vs.length (vs.length+1)),M2)) (bP d3 Nat.one_ne_zero) (hq (qC 75 [.slice av vs.length cv,.func (.func 54) ⟨[.agg ⟨[i64 (n:Int),pt ab 0]⟩]⟩ ⟨[]⟩] M2 (.slice a9 801 b6) a8) (aJ rfl d9 d7 d0) (hq (qC 74 [aC b1 0 vs.length (vs.length+1),.slice a9 801 b6] a8 (aC b0 0 801 802) b4) (aJ rfl e0 d8 d1) (hk (lN b3.ln) (hq (.blk 0 (.loop (q52.loopAt 0)) Try.f52.ntmps [1,5,6,18,19,20] [some (.func (.func 54) ⟨[.agg ⟨[i64 (n:Int),pt ab 0]⟩]⟩ ⟨[]⟩),some (aC b1 0 vs.length (vs.length+1)),some (aC b0 0 801 802),some (.slice av vs.length cv),some (i64 (vs.length:Int)),some (i64 0)] b4 .normal (fr [(5,(aC b1 0 vs.length (vs.length+1)))]) b5) (fP rfl) hn)))))),c9,c0,aH.of_blk' (b:=b1) (w:=1) (g:=Nr) (jV c5 d5) (Ap a7 vs) (Ac _).symm (fun _ _=>rfl) (by rw[Ap a7];omega)⟩
abbrev Q52:=FC (hZ (mU aL (Dt 54 108)) fun x=>rA x.2.2/\x.1.length<=60) (iQ aL) (fun x=>sB x.2.2 x.1)
theorem con52{x:List Int×Nat×eR}{lv:List Value}{M:aA}(hM:aB M)(h:(hZ (mU aL (Dt 54 108)) fun x:List Int×Nat×eR=>rA x.2.2/\x.1.length<=60) x lv M): ∃v M',lM Try.prog [] 52 Q52 lv M v M':=by
 refine FC.con h ?_
 obtain⟨⟨g0,g1,rfl,k0,k1⟩,a1,hl⟩:=h
 obtain⟨vs,n,ad⟩:=x
 obtain⟨av,cv,rfl⟩:=aH.form k0
 obtain⟨s,rfl,p,rfl,a0⟩:=k1
 obtain⟨ab,o,i_,t,s,rfl,gab,hout,hinn,hto,hset⟩:=id a0
 obtain⟨v',M',h1,h2,_,h3⟩:=w23 n ab ad av cv vs hM k0 a0 a1 hl
 exact⟨v',M',h1,h2,h3⟩
theorem rK23:Try.f23.results= #[.tmp 2]:=by kernel_rfl
theorem Rg(n:Nat)(al:Option Addr)(cl:Nat)(l:List E4){M:aA}(hM:aB M)(hl:aU l (.slice al l.length cl) M)(h2:eX (n:Int) l=true)(f4:rA (iY n l))(b4:n<=60): ∃v_ M',Ev Try.prog [] 23 [.agg ⟨[i64 (n:Int),.slice al l.length cl]⟩] M v_ M'/\Ext M M'/\aB M'/\iQ aL (bW n l) M.next v_ M':=by
 obtain⟨b1,M2,g8,g9,g5,E6,h1⟩:=bE hM ⟨[i64 (n:Int),.slice al l.length cl],26,2,0,true⟩
 have X9:=(Ext.refl M).trans E6
 have ltb1M15:=aA.lt_of_get g5
 obtain⟨Rg,i8,b5,h8,h3,g7,e1,c9,f6⟩:=aM (x:=(n,l)) h1 con51 (⟨⟨_,rfl,_,rfl,AP.Ext (R:=aU) hl X9⟩,h2⟩)
 have h6:=e1.next
 obtain⟨j1,b3,c0⟩:mR 108 (n,iY n l) Rg (cK [(0,M2.next)] b5):=lY f6
 simp only at b3 c0
 obtain⟨a1,_,_,_,_,c6,_⟩:=id c0
 subst c6
 subst b3
 have e6:=X9.trans e1
 obtain⟨a8,c1,a9,c5,h0,e2,d0⟩:=bE c9 ⟨[i64 0,.pointer none],77,2,0,true⟩
 have e0:M.next<=a8:=(mG a9 e6:)
 have f7:=jH (R:=(eP 108)) c0 a9 e2
 have g3:=e6.trans e2
 obtain⟨a0,i1,f0,d6,b2,d1,h7⟩:=aZ (o:=0) (v:=(.agg ⟨[i64 (n:Int),pt a1 0]⟩)) (new:= [i64 (n:Int),pt a1 0]) g3 e0 d0 Fc h0 rfl rfl (Nat.zero_le _) (Nat.le_of_ble_eq_true rfl) rfl
 have f8:=hJ (R:=(eP 108)) f7 (fun id h _=>d6 id h) (by intro id hh;simp only [bQ] at hh;omega)
 obtain⟨b6,a4⟩:=Kz a0 a0 []
 have g4:=Ow a4 b2
 have d7:b6.log= []:=by rw[a4]
 have d2:=Lg a4 d1
 have a6:=aA.lt_of_get f0
 have f1:=cG a4 f0
 have e3:=gI (R:=(eP 108)) (M':=b6) f8 (fun id b h=>by rw[a4];exact h)
 obtain⟨w56,i9,a3,h9,h4,e8,b9,d3,f9⟩:=aM (x:=(n,iY n l)) d2 con53 (⟨⟨_,rfl,_,rfl,eO (R:=eP 108) e3⟩,f4,b4⟩)
 have g0:=iM (R:=(eP 108)) e3 b9
 have f2:=b9.old f1
 have e4:aL (dL (iY n l) n) w56 (cK [(0,b6.next)] a3):=lY f9
 obtain⟨c3,c4,c7⟩:=aH.form e4
 subst c7
 have d8:a3.log= []:=by rw[<-e8];exact d7
 have c2:=g4.trans b9
 have ltb25M76:=aA.lt_of_get f2
 obtain⟨i7,j0,a2,i0,h5,e9,f5,d4,g1⟩:=aM (x:=(dL (iY n l) n,n,iY n l)) d3 con52 (⟨⟨_,_,rfl,eO (R:=aL) e4,_,rfl,_,rfl,eO (R:=eP 108) g0⟩,f4,Nat.le_trans (rY (iY n l) n) b4⟩)
 have e5:aL (bW n l) i7 (cK [(0,a3.next)] a2):=lY g1
 obtain⟨b7,b8,c8⟩:=aH.form e5
 subst c8
 have d9:a2.log= []:=by rw[<-e9];exact d8
 have e7:=c2.trans f5
 obtain⟨b0,a7⟩: ∃m:aA,m=(aA.mk a2.blks a2.next a2.hide (a2.log++a0.log)):=⟨_,rfl⟩
 have g6:Ext M b0:=by rw[a7];exact Ext.join (b2) (e7)
 have d5:aB b0:=by rw[a7];exact d4
 have g2:=gI (R:=aL) (M':=b0) e5 (fun id b h=>by rw[a7];exact h)
 have a5:oT Try.prog [] 60 Try.f23 q23 [.agg ⟨[i64 (n:Int),.slice al l.length cl]⟩] M [bK 1 (pt b1 0) M2,aR 5 (.agg ⟨[i64 (n:Int),.slice al l.length cl]⟩),bK 7 (.agg ⟨[i64 (n:Int),pt a1 0]⟩) b5,bK 9 (pt a8 0) c1,jJ 11 a0,aR 13 (.agg ⟨[i64 (n:Int),pt a1 0]⟩),bK 15 (.slice c3 (dL (iY n l) n).length c4) a3,aR 17 (.agg ⟨[i64 (n:Int),pt a1 0]⟩),bK 21 (.slice b7 (bW n l).length b8) a2] 2=some (.ret,some (.slice b7 (bW n l).length b8),aA.mk a2.blks a2.next a0.hide (a2.log++a0.log),[.eq (eL Try.prog 26 (.agg ⟨[i64 (n:Int),.slice al l.length cl]⟩) M) (1,.val (pt b1 0),M2),qL 26 b1 0 M2 (.agg ⟨[i64 (n:Int),.slice al l.length cl]⟩),qC 51 [.agg ⟨[i64 (n:Int),.slice al l.length cl]⟩] M2 (.agg ⟨[i64 (n:Int),pt a1 0]⟩) b5,.eq (cN Try.prog 77 b5) (1,.val (pt a8 0),c1),qS 77 a8 0 (.agg ⟨[i64 (n:Int),pt a1 0]⟩) c1 a0,qL 77 a8 0 (aA.mk a0.blks a0.next a0.hide []) (.agg ⟨[i64 (n:Int),pt a1 0]⟩),qC 53 [.agg ⟨[i64 (n:Int),pt a1 0]⟩] (aA.mk a0.blks a0.next a0.hide []) (.slice c3 (dL (iY n l) n).length c4) a3,qL 77 a8 0 (aA.mk a3.blks a3.next (aV 0 [⟨1,1,a0.next,a3.next⟩,⟨0,1,a0.next,a0.next⟩]++a0.hide) a3.log) (.agg ⟨[i64 (n:Int),pt a1 0]⟩),qT (Nat.blt a8 a0.next),qC 52 [.slice c3 (dL (iY n l) n).length c4,.func (.func 54) ⟨[.agg ⟨[i64 (n:Int),pt a1 0]⟩]⟩ ⟨[]⟩] (aA.mk a3.blks a3.next a0.hide a3.log) (.slice b7 (bW n l).length b8) a2,qT (cY [a8] a2.log)]):=by kernel_rfl
 have i2:aA.mk a0.blks a0.next a0.hide []=b6:=a4.symm
 have i3:=pY ((b2).hide.trans (c2).hide.symm)
 have i4:=Jd 0 [⟨1,1,a0.next,a3.next⟩,⟨0,1,a0.next,a0.next⟩] ((b2).hide.trans (c2).hide.symm)
 have i5:=Ew (L:=(a2.log++a0.log)) ((b2).hide.trans (e7).hide.symm)
 have i6:(aA.mk a2.blks a2.next a2.hide (a2.log++a0.log))=b0:=a7.symm
 try rw[i2] at a5
 try rw[i3] at a5
 try rw[i4] at a5
 try rw[i5] at a5
 try rw[i6] at a5
 exact⟨.slice b7 (bW n l).length b8,b0,Ev.told_tmp aG aF Try.func23 aAk (by kernel_rfl) rK23 (fun B=>lQ (gP 51 Q51 (gP 52 Q52 (gP 53 Q53 (gS _))))) (fun _ _=>rfl) a5 (hk (bP (by rw[<-g8,<-g9];kernel_rfl) Nat.one_ne_zero) (hk (lA ⟨Aw,vO⟩ g5 rfl) (hk (aJ rfl h8 h3 g7) (hk (bP (by rw[<-a9,<-c5];kernel_rfl) Nat.one_ne_zero) (hk (dA i1) (hk (lA ⟨Nl,Fc⟩ f1 rfl) (hk (aJ rfl h9 h4 e8) (hk (lA ⟨Nl,Fc⟩ (cB.2 ⟨dI (by simp;omega),f2⟩) rfl) (hk (mB a6) (hk (aJ rfl i0 h5 e9) (hk (eD (by rw[d9];simp<;>omega)) hn))))))))))),g6,d5,Gh (R:=aL) g2 (by intro id hh;simp only [bQ] at hh;omega)⟩
abbrev Q23:=FC (hZ (sU nT) fun x=>eX (x.1:Int) x.2=true) (iQ aL) (fun x=>bW x.1 x.2)
theorem con23{x:Nat×List E4}{lv:List Value}{M:aA}(hM:aB M)(h:(hZ (sU nT) fun x:Nat×List E4=>eX (x.1:Int) x.2=true) x lv M): ∃v M',lM Try.prog [] 23 Q23 lv M v M':=by
 refine FC.con h ?_
 obtain⟨⟨g0,rfl,k0⟩,a0⟩:=h
 obtain⟨n,l⟩:=x
 obtain⟨_,rfl,hl⟩:=k0
 obtain⟨a,c,rfl⟩:=aH.form hl
 obtain⟨v,M',h1,h2,_,h3⟩:=Rg n a c l hM hl a0 (Lf a0) (by have:=(fX a0).2.1;simp only at this⊢;omega)
 exact⟨v,M',h1,h2,h3⟩
theorem zH(p r6 bb o m c i:Nat)(N md k:Int)(S:Value)(l:List E4){M M0:aA}(hM:aB M)(X0:Ext M0 M)(np:M0.next<=p)(gp:M.get p=some ⟨[i64 N,S],26,2,0,true⟩)(z8:M.get r6=some ⟨[i64 0,eZ],26,2,0,true⟩)(j6:p≠r6)(B4:(decide (0<N)&&decide (N<2^62))=true)(hA:cT 37 4 M0 [p,r6] l.length ((l.map cC).flatten) S M)(k2:l.length<1073741824)(g5:(decide ((i:Int)<(m:Int)))=true)(w7:(decide ((i:Int)<(40:Int)))=true): (∀(cc2:((aD md 3)==(0:Int))=true)(cc3:((aD k 31)==(0:Int))=true)(hld0:bI Try.prog 3 ⟨bb,o+((i:Int):Int).toNat*1,none⟩ M0=some (i64 k)),∃T1 M' f9,Rd Try.prog [] (q10.loopAt 0) Try.f10.ntmps (fr [(1,(aC bb o m c)),(2,(i64 md)),(6,(pt r6 0)),(7,(pt p 0)),(8,(i64 (i:Int)))]) M .normal T1 M'/\ [1,2,6,7,8].map T1.get= [some (aC bb o m c),some (i64 md),some (pt r6 0),some (pt p 0),some (i64 (IntKind.wrap .i64 ((i:Int)+(1:Int))))]/\Ext M0 M'/\aB M'/\M'.get p=some ⟨[i64 N,f9],26,2,0,true⟩/\M'.get r6=some ⟨[i64 0,eZ],26,2,0,true⟩/\cT 37 4 M0 [p,r6] (l.length+1) ((l.map cC).flatten++ [i64 (aD k N),i64 (aD (aK k 13) N),i64 (aD (IntKind.wrap .i64 ((aD k N)+(aD (aK k 13) N))) 2),i64 (IntKind.wrap .i64 ((2147483647:Int)-(aD (aK k 31) 3)))]) f9 M')/\(∀(cc2:((aD md 3)==(0:Int))=true)(cc3:((aD k 31)==(0:Int))=false)(hld0:bI Try.prog 3 ⟨bb,o+((i:Int):Int).toNat*1,none⟩ M0=some (i64 k)),∃T1 M' f8,Rd Try.prog [] (q10.loopAt 0) Try.f10.ntmps (fr [(1,(aC bb o m c)),(2,(i64 md)),(6,(pt r6 0)),(7,(pt p 0)),(8,(i64 (i:Int)))]) M .normal T1 M'/\ [1,2,6,7,8].map T1.get= [some (aC bb o m c),some (i64 md),some (pt r6 0),some (pt p 0),some (i64 (IntKind.wrap .i64 ((i:Int)+(1:Int))))]/\Ext M0 M'/\aB M'/\M'.get p=some ⟨[i64 N,f8],26,2,0,true⟩/\M'.get r6=some ⟨[i64 0,eZ],26,2,0,true⟩/\cT 37 4 M0 [p,r6] (l.length+1) ((l.map cC).flatten++ [i64 (aD k N),i64 (aD (aK k 13) N),i64 (aD (IntKind.wrap .i64 ((aD k N)+(aD (aK k 13) N))) 2),i64 (aD (aK k 900) 9)]) f8 M')/\(∀(cc2:((aD md 3)==(0:Int))=false)(cc3:((aD md 3)==(1:Int))=true)(cc4:((aD k 31)==(0:Int))=true)(hld0:bI Try.prog 3 ⟨bb,o+((i:Int):Int).toNat*1,none⟩ M0=some (i64 k)),∃T1 M' g0,Rd Try.prog [] (q10.loopAt 0) Try.f10.ntmps (fr [(1,(aC bb o m c)),(2,(i64 md)),(6,(pt r6 0)),(7,(pt p 0)),(8,(i64 (i:Int)))]) M .normal T1 M'/\ [1,2,6,7,8].map T1.get= [some (aC bb o m c),some (i64 md),some (pt r6 0),some (pt p 0),some (i64 (IntKind.wrap .i64 ((i:Int)+(1:Int))))]/\Ext M0 M'/\aB M'/\M'.get p=some ⟨[i64 N,g0],26,2,0,true⟩/\M'.get r6=some ⟨[i64 0,eZ],26,2,0,true⟩/\cT 37 4 M0 [p,r6] (l.length+1) ((l.map cC).flatten++ [i64 (aD k N),i64 (aD (aK k 13) N),i64 (aD (IntKind.wrap .i64 ((aD (aK k 170) 5)*(aD k N))) 3),i64 (IntKind.wrap .i64 ((2147483647:Int)-(aD (aK k 31) 3)))]) g0 M')/\(∀(cc2:((aD md 3)==(0:Int))=false)(cc3:((aD md 3)==(1:Int))=true)(cc4:((aD k 31)==(0:Int))=false)(hld0:bI Try.prog 3 ⟨bb,o+((i:Int):Int).toNat*1,none⟩ M0=some (i64 k)),∃T1 M' b3,Rd Try.prog [] (q10.loopAt 0) Try.f10.ntmps (fr [(1,(aC bb o m c)),(2,(i64 md)),(6,(pt r6 0)),(7,(pt p 0)),(8,(i64 (i:Int)))]) M .normal T1 M'/\ [1,2,6,7,8].map T1.get= [some (aC bb o m c),some (i64 md),some (pt r6 0),some (pt p 0),some (i64 (IntKind.wrap .i64 ((i:Int)+(1:Int))))]/\Ext M0 M'/\aB M'/\M'.get p=some ⟨[i64 N,b3],26,2,0,true⟩/\M'.get r6=some ⟨[i64 0,eZ],26,2,0,true⟩/\cT 37 4 M0 [p,r6] (l.length+1) ((l.map cC).flatten++ [i64 (aD k N),i64 (aD (aK k 13) N),i64 (aD (IntKind.wrap .i64 ((aD (aK k 170) 5)*(aD k N))) 3),i64 (aD (aK k 900) 9)]) b3 M')/\(∀(cc2:((aD md 3)==(0:Int))=false)(cc3:((aD md 3)==(1:Int))=false)(cc4:((aD k 31)==(0:Int))=true)(hld0:bI Try.prog 3 ⟨bb,o+((i:Int):Int).toNat*1,none⟩ M0=some (i64 k)),∃T1 M' b3,Rd Try.prog [] (q10.loopAt 0) Try.f10.ntmps (fr [(1,(aC bb o m c)),(2,(i64 md)),(6,(pt r6 0)),(7,(pt p 0)),(8,(i64 (i:Int)))]) M .normal T1 M'/\ [1,2,6,7,8].map T1.get= [some (aC bb o m c),some (i64 md),some (pt r6 0),some (pt p 0),some (i64 (IntKind.wrap .i64 ((i:Int)+(1:Int))))]/\Ext M0 M'/\aB M'/\M'.get p=some ⟨[i64 N,b3],26,2,0,true⟩/\M'.get r6=some ⟨[i64 0,eZ],26,2,0,true⟩/\cT 37 4 M0 [p,r6] (l.length+1) ((l.map cC).flatten++ [i64 (aD k N),i64 (aD (aK k 13) N),i64 (aD (aK k 170) 5),i64 (IntKind.wrap .i64 ((2147483647:Int)-(aD (aK k 31) 3)))]) b3 M')/\(∀(cc2:((aD md 3)==(0:Int))=false)(cc3:((aD md 3)==(1:Int))=false)(cc4:((aD k 31)==(0:Int))=false)(hld0:bI Try.prog 3 ⟨bb,o+((i:Int):Int).toNat*1,none⟩ M0=some (i64 k)),∃T1 M' f7,Rd Try.prog [] (q10.loopAt 0) Try.f10.ntmps (fr [(1,(aC bb o m c)),(2,(i64 md)),(6,(pt r6 0)),(7,(pt p 0)),(8,(i64 (i:Int)))]) M .normal T1 M'/\ [1,2,6,7,8].map T1.get= [some (aC bb o m c),some (i64 md),some (pt r6 0),some (pt p 0),some (i64 (IntKind.wrap .i64 ((i:Int)+(1:Int))))]/\Ext M0 M'/\aB M'/\M'.get p=some ⟨[i64 N,f7],26,2,0,true⟩/\M'.get r6=some ⟨[i64 0,eZ],26,2,0,true⟩/\cT 37 4 M0 [p,r6] (l.length+1) ((l.map cC).flatten++ [i64 (aD k N),i64 (aD (aK k 13) N),i64 (aD (aK k 170) 5),i64 (aD (aK k 900) 9)]) f7 M'):=by
 obtain⟨R1,k7⟩:=Kz M M []
 have X3:=Ow k7 X0
 have P8:R1.log= []:=by rw[k7]
 have P7:=Lg k7 hM
 have k5:=aA.lt_of_get gp
 have g6:=cG k7 gp
 have ltr6M:=aA.lt_of_get z8
 have g7:=cG k7 z8
 have A8:=hA.same (M':=R1) (fun id b h=>by rw[k7];exact h)
 obtain⟨w9,Q1,a0,x3,w8,t8,C0,I3,N4⟩:=aM (x:=(k,N)) P7 jT (⟨⟨_,_,rfl,rfl,rfl⟩,B4⟩)
 have M8:=A8.ext C0
 have v6:=C0.old g6
 have O3:=C0.old g7
 have O2:w9=(i64 (aD k N)):=N4
 subst O2
 have J2:a0.log= []:=by rw[<-t8];exact P8
 have j5:=X3.trans C0
 obtain⟨w24,Q2,a2,x4,x0,u0,C1,I4,N5⟩:=aM (x:=((aK k 13),N)) I3 jT (⟨⟨_,_,rfl,rfl,rfl⟩,B4⟩)
 have M9:=M8.ext C1
 have O4:=C1.old v6
 have O5:=C1.old O3
 have G2:w24=(i64 (aD (aK k 13) N)):=N5
 subst G2
 have J3:a2.log= []:=by rw[<-u0];exact J2
 have t3:=j5.trans C1
 obtain⟨P9,Q3,a3,x5,x1,u1,C2,I5,N6⟩:=aM (x:=((aK k 170),5)) I4 jT (⟨⟨_,_,rfl,rfl,rfl⟩,rfl⟩)
 have N0:=M9.ext C2
 have O6:=C2.old O4
 have O7:=C2.old O5
 have G3:P9=(i64 (aD (aK k 170) 5)):=N6
 subst G3
 have J4:a3.log= []:=by rw[<-u1];exact J3
 have t4:=t3.trans C2
 obtain⟨Q0,Q4,a7,x6,x2,u2,C3,I6,N7⟩:=aM (x:=((aK k 900),9)) I5 jT (⟨⟨_,_,rfl,rfl,rfl⟩,rfl⟩)
 have N1:=N0.ext C3
 have L0:=C3.old O6
 have L1:=C3.old O7
 have G4:Q0=(i64 (aD (aK k 900) 9)):=N7
 subst G4
 have J5:a7.log= []:=by rw[<-u2];exact J4
 have K9:=t4.trans C3
 obtain⟨b1,a4,e5,i6,O8,C4,I7⟩:=bE I6 ⟨[i64 0,i64 0,i64 0,i64 0],37,4,0,true⟩
 have i0:M0.next<=b1:=(mG e5 K9:)
 have c4:=fL L0 e5
 have b6:=fL L1 e5
 have N2:=N1.new e5 C4
 have O9:=C4.old L0
 have P0:=C4.old L1
 have J6:a4.log= []:=by rw[<-i6];exact J5
 have t5:=K9.trans C4
 obtain⟨a6,x7,P1,v7,t6,I8,J7⟩:=aZ (o:=0) (v:=(.agg ⟨[i64 (aD k N),i64 (aD (aK k 13) N),i64 (aD (aK k 170) 5),i64 (aD (aK k 900) 9)]⟩)) (new:= [i64 (aD k N),i64 (aD (aK k 13) N),i64 (aD (aK k 170) 5),i64 (aD (aK k 900) 9)]) t5 i0 I7 oO O8 rfl rfl (Nat.zero_le _) (Nat.le_of_ble_eq_true rfl) rfl
 have N3:=N2.keep (by simp) (fun id h _=>v7 id h)
 have P2:=(v7 _ c4).trans O9
 have P3:=(v7 _ b6).trans P0
 have k4:a6.log= [b1]:=by rw[J7,J6]
 obtain⟨p2,c6⟩: ∃m:aA,m=(aA.mk a6.blks a6.next a6.hide (a6.log++M.log)):=⟨_,rfl⟩
 have O1:Ext M0 p2:=by rw[c6];exact Ext.join (X0) (t6)
 have I9:aB p2:=by rw[c6];exact I8
 have P4:=cG c6 P2
 have P5:=cG c6 P3
 have P6:=cG c6 P1
 have C5:=N3.same (M':=p2) (fun id b h=>by rw[c6];exact h)
 obtain⟨K6,N8,b0,k6,k3,j7,l5,f2,D7⟩:=aM (x:=(md,3)) I9 jT (⟨⟨_,_,rfl,rfl,rfl⟩,rfl⟩)
 have j2:=C5.ext l5
 have j8:=l5.old P4
 have j9:=l5.old P5
 have e6:=l5.old P6
 have y6:K6=(i64 (aD md 3)):=D7
 subst y6
 have j3:=O1.trans l5
 refine⟨?_,?_,?_,?_,?_,?_⟩
 ·intro cc2 cc3 hld0
  obtain⟨e4,m3,a8,e3,e2,d4,a5,b8,d2⟩:=aM (x:=((IntKind.wrap .i64 ((aD k N)+(aD (aK k 13) N))),2)) f2 jT (⟨⟨_,_,rfl,rfl,rfl⟩,rfl⟩)
  have c8:=j2.ext a5
  have d6:=a5.old j8
  have d7:=a5.old j9
  have b9:=a5.old e6
  have b7:e4=(i64 (aD (IntKind.wrap .i64 ((aD k N)+(aD (aK k 13) N))) 2)):=d2
  subst b7
  have d3:=j3.trans a5
  obtain⟨i3,w0,u3,e0,s8,n0,B7⟩:=aZ (o:=2) (v:=(i64 (aD (IntKind.wrap .i64 ((aD k N)+(aD (aK k 13) N))) 2))) (new:= [i64 (aD k N),i64 (aD (aK k 13) N),i64 (aD (IntKind.wrap .i64 ((aD k N)+(aD (aK k 13) N))) 2),i64 (aD (aK k 900) 9)]) d3 i0 b8 Jc b9 rfl rfl (Nat.zero_le _) (Nat.le_of_ble_eq_true rfl) rfl
  have r7:=c8.keep (by simp) (fun id h _=>e0 id h)
  have u4:=(e0 _ c4).trans d6
  have u5:=(e0 _ b6).trans d7
  obtain⟨w6,E0,f4,v9,v8,t9,d0,n1,s0⟩:=aM (x:=(k,31)) n0 jT (⟨⟨_,_,rfl,rfl,rfl⟩,rfl⟩)
  have r8:=r7.ext d0
  have m8:=d0.old u4
  have p9:=d0.old u5
  have c7:=d0.old u3
  have m7:w6=(i64 (aD k 31)):=s0
  subst m7
  have p3:=s8.trans d0
  obtain⟨o9,x8,c0,n9,n8,m5,b4,h5,m2⟩:=aM (x:=((aK k 31),3)) n1 jT (⟨⟨_,_,rfl,rfl,rfl⟩,rfl⟩)
  have l0:=r8.ext b4
  have i7:=b4.old m8
  have h4:=b4.old p9
  have c3:=b4.old c7
  have h0:o9=(i64 (aD (aK k 31) 3)):=m2
  subst h0
  have j4:=p3.trans b4
  obtain⟨f6,w4,u9,n6,y0,A5,M2⟩:=aZ (o:=3) (v:=(i64 (IntKind.wrap .i64 ((2147483647:Int)-(aD (aK k 31) 3))))) (new:= [i64 (aD k N),i64 (aD (aK k 13) N),i64 (aD (IntKind.wrap .i64 ((aD k N)+(aD (aK k 13) N))) 2),i64 (IntKind.wrap .i64 ((2147483647:Int)-(aD (aK k 31) 3)))]) j4 i0 h5 Jc c3 rfl rfl (Nat.zero_le _) (Nat.le_of_ble_eq_true rfl) rfl
  have l2:=l0.keep (by simp) (fun id h _=>n6 id h)
  have d8:=(n6 _ c4).trans i7
  have e7:=(n6 _ b6).trans h4
  obtain⟨p6,g8,f0,y4,z4,m0,n3⟩:=bE A5 ⟨[i64 (aD k N),i64 (aD (aK k 13) N),i64 (aD (IntKind.wrap .i64 ((aD k N)+(aD (aK k 13) N))) 2),i64 (IntKind.wrap .i64 ((2147483647:Int)-(aD (aK k 31) 3)))],37,4,0,true⟩
  have L8:M0.next<=p6:=(mG f0 y0:)
  have F8:=fL d8 f0
  have dr6b181:=fL e7 f0
  have db69b181:=fL u9 f0
  have D1:=l2.new f0 m0
  have z5:=m0.old d8
  have q1:=m0.old e7
  have H4:=m0.old u9
  have F0:=y0.trans m0
  obtain⟨q6,f9,s5,K2,F1,B0,l3,r0,L4⟩:=gW (P:=Try.prog) (sT:=24) (xT:=24) (y:=32) (c:=2) D1 F0 n3 (by intro x hx;simp only [List.mem_cons,List.not_mem_nil,or_false] at hx;rcases hx with rfl|rfl|rfl|rfl<;>first|exact aA.lt_of_get z4|exact aA.lt_of_get H4|exact aA.lt_of_get z5|exact aA.lt_of_get q1) (by kernel_rfl) (by kernel_rfl) (by kernel_rfl) (by kernel_rfl) (by decide) (by decide) rfl k2 z4 (o:=0) (new:= [i64 (aD k N),i64 (aD (aK k 13) N),i64 (aD (IntKind.wrap .i64 ((aD k N)+(aD (aK k 13) N))) 2),i64 (IntKind.wrap .i64 ((2147483647:Int)-(aD (aK k 31) 3)))]) rfl rfl rfl
  have H5:=r0 _ _ z5 (by simp)
  have q2:=r0 _ _ q1 (by simp)
  obtain⟨p0,K3,H7,r4,F3,B1,M6⟩:=aZ (o:=1) (v:=f9) (new:= [i64 N,f9]) F1 np B0 Qb H5 (by rw[cI l3.isCell];rfl) (by rw[cI l3.isCell];show(isCell _&&true)=true;rw[l3.isCell];rfl) (Nat.zero_le _) (Nat.le_of_ble_eq_true rfl) (by rw[cI l3.isCell];rfl)
  have D5:=l3.keep (by simp) (fun id h _=>r4 id h)
  have H8:=(r4 _ (Ne.symm j6)).trans q2
  have a1:oR Try.prog [] 100 Try.f10 (q10.loopAt 0) [(1,(aC bb o m c)),(2,(i64 md)),(6,(pt r6 0)),(7,(pt p 0)),(8,(i64 (i:Int)))] M [aP 10,aP 12,aP 15,aP 16,aP 22,aR 24 (i64 k),aR 32 (i64 N),bK 34 (i64 (aD k N)) a0,aR 42 (i64 N),bK 44 (i64 (aD (aK k 13) N)) a2,bK 50 (i64 (aD (aK k 170) 5)) a3,bK 56 (i64 (aD (aK k 900) 9)) a7,bK 60 (pt b1 0) (aA.mk a4.blks a4.next (aV 0 [⟨14,1,a3.next,a7.next⟩,⟨11,1,a2.next,a3.next⟩,⟨8,1,a0.next,a2.next⟩,⟨3,1,M.next,a0.next⟩,⟨2,1,M.next,M.next⟩]++M.hide) a4.log),jJ 62 a6,bK 66 (i64 (aD md 3)) b0,aP 69,aR 73 (i64 (aD k N)),aR 77 (i64 (aD (aK k 13) N)),bK 81 (i64 (aD (IntKind.wrap .i64 ((aD k N)+(aD (aK k 13) N))) 2)) a8,jJ 85 i3,bK 89 (i64 (aD k 31)) f4,aP 92,bK 98 (i64 (aD (aK k 31) 3)) c0,jJ 104 f6,aR 108 S,aR 110 (.agg ⟨[i64 (aD k N),i64 (aD (aK k 13) N),i64 (aD (IntKind.wrap .i64 ((aD k N)+(aD (aK k 13) N))) 2),i64 (IntKind.wrap .i64 ((2147483647:Int)-(aD (aK k 31) 3)))]⟩),bK 112 (aC p6 0 1 2) g8,.at 114 ((bif q6 then 1 else 2),.val f9,s5),jJ 118 p0] [1,2,6,7,8]=some (.normal,[some (aC bb o m c),some (i64 md),some (pt r6 0),some (pt p 0),some (i64 (IntKind.wrap .i64 ((i:Int)+(1:Int))))],p0,[qT (decide ((i:Int)<(m:Int))),qT (decide ((i:Int)<(m:Int))),qT (decide ((i:Int)<(m:Int))),qT (decide ((i:Int)<(40:Int))),.q (.inb (i:Int) m) (eT true),qL 3 bb (o+((i:Int):Int).toNat*1) M (i64 k),qL 3 p 0 (aA.mk M.blks M.next M.hide []) (i64 N),qC 19 [i64 k,i64 N] (aA.mk M.blks M.next M.hide []) (i64 (aD k N)) a0,qL 3 p 0 (aA.mk a0.blks a0.next (aV 64 [⟨3,1,M.next,a0.next⟩,⟨2,1,M.next,M.next⟩]++M.hide) a0.log) (i64 N),qT (Nat.blt p M.next),qC 19 [i64 (aK k 13),i64 N] (aA.mk a0.blks a0.next M.hide a0.log) (i64 (aD (aK k 13) N)) a2,qC 19 [i64 (aK k 170),i64 5] (aA.mk a2.blks a2.next M.hide a2.log) (i64 (aD (aK k 170) 5)) a3,qC 19 [i64 (aK k 900),i64 9] (aA.mk a3.blks a3.next M.hide a3.log) (i64 (aD (aK k 900) 9)) a7,.eq (cN Try.prog 37 (aA.mk a7.blks a7.next (aV 0 [⟨14,1,a3.next,a7.next⟩,⟨11,1,a2.next,a3.next⟩,⟨8,1,a0.next,a2.next⟩,⟨3,1,M.next,a0.next⟩,⟨2,1,M.next,M.next⟩]++M.hide) a7.log)) (1,.val (pt b1 0),(aA.mk a4.blks a4.next (aV 0 [⟨14,1,a3.next,a7.next⟩,⟨11,1,a2.next,a3.next⟩,⟨8,1,a0.next,a2.next⟩,⟨3,1,M.next,a0.next⟩,⟨2,1,M.next,M.next⟩]++M.hide) a4.log)),qS 37 b1 0 (.agg ⟨[i64 (aD k N),i64 (aD (aK k 13) N),i64 (aD (aK k 170) 5),i64 (aD (aK k 900) 9)]⟩) (aA.mk (aA.mk a4.blks a4.next (aV 0 [⟨14,1,a3.next,a7.next⟩,⟨11,1,a2.next,a3.next⟩,⟨8,1,a0.next,a2.next⟩,⟨3,1,M.next,a0.next⟩,⟨2,1,M.next,M.next⟩]++M.hide) a4.log).blks (aA.mk a4.blks a4.next (aV 0 [⟨14,1,a3.next,a7.next⟩,⟨11,1,a2.next,a3.next⟩,⟨8,1,a0.next,a2.next⟩,⟨3,1,M.next,a0.next⟩,⟨2,1,M.next,M.next⟩]++M.hide) a4.log).next M.hide (aA.mk a4.blks a4.next (aV 0 [⟨14,1,a3.next,a7.next⟩,⟨11,1,a2.next,a3.next⟩,⟨8,1,a0.next,a2.next⟩,⟨3,1,M.next,a0.next⟩,⟨2,1,M.next,M.next⟩]++M.hide) a4.log).log) a6,qT (cY [p] a6.log),qC 19 [i64 md,i64 3] (aA.mk a6.blks a6.next M.hide (a6.log++M.log)) (i64 (aD md 3)) b0,qT ((aD md 3)==(0:Int)),qL 3 b1 0 b0 (i64 (aD k N)),qL 3 b1 1 b0 (i64 (aD (aK k 13) N)),qC 19 [i64 (IntKind.wrap .i64 ((aD k N)+(aD (aK k 13) N))),i64 2] b0 (i64 (aD (IntKind.wrap .i64 ((aD k N)+(aD (aK k 13) N))) 2)) a8,qS 3 b1 2 (i64 (aD (IntKind.wrap .i64 ((aD k N)+(aD (aK k 13) N))) 2)) a8 i3,qC 19 [i64 k,i64 31] i3 (i64 (aD k 31)) f4,qT ((aD k 31)==(0:Int)),qC 19 [i64 (aK k 31),i64 3] f4 (i64 (aD (aK k 31) 3)) c0,qS 3 b1 3 (i64 (IntKind.wrap .i64 ((2147483647:Int)-(aD (aK k 31) 3)))) c0 f6,qL 24 p 1 f6 S,qL 37 b1 0 f6 (.agg ⟨[i64 (aD k N),i64 (aD (aK k 13) N),i64 (aD (IntKind.wrap .i64 ((aD k N)+(aD (aK k 13) N))) 2),i64 (IntKind.wrap .i64 ((2147483647:Int)-(aD (aK k 31) 3)))]⟩),.eq (bH Try.prog 24 1 [(0,(.agg ⟨[i64 (aD k N),i64 (aD (aK k 13) N),i64 (aD (IntKind.wrap .i64 ((aD k N)+(aD (aK k 13) N))) 2),i64 (IntKind.wrap .i64 ((2147483647:Int)-(aD (aK k 31) 3)))]⟩))] f6) (1,.val (aC p6 0 1 2),g8),.q (.append [24,24] S (aC p6 0 1 2) g8) ((bif q6 then 1 else 2),.val f9,s5),qS 24 p 1 f9 s5 p0]):=by cases q6<;>kernel_rfl
  dsimp only at a1
  have o1:aA.mk M.blks M.next M.hide []=R1:=k7.symm
  have o2:=pY ((X0).hide.trans (j5).hide.symm)
  have o3:=Jd 64 [⟨3,1,M.next,a0.next⟩,⟨2,1,M.next,M.next⟩] ((X0).hide.trans (j5).hide.symm)
  have o4:=pY ((X0).hide.trans (t3).hide.symm)
  have o5:=pY ((X0).hide.trans (t4).hide.symm)
  have o6:=pY ((X0).hide.trans (t5).hide.symm)
  have o7:=Ew (L:=(a6.log++M.log)) ((X0).hide.trans (t6).hide.symm)
  have o8:(aA.mk a6.blks a6.next a6.hide (a6.log++M.log))=p2:=c6.symm
  try rw[o1] at a1
  try rw[o2] at a1
  try rw[o3] at a1
  try rw[o4] at a1
  try rw[o5] at a1
  try rw[o6] at a1
  try rw[o7] at a1
  try rw[o8] at a1
  obtain⟨T1,h1,h2⟩:=Rd.told aG aF (fun B=>lQ (gP 19 Xc (gS _))) (fun _ _=>rfl) a1 (hw (bT g5) (hk (bT g5) (hk (bT w7) (hk (dY (by omega) (by simp at g5;omega)) (hk (fF (aS X0 hld0)) (hk (lC bV g6 rfl) (hk (aJ rfl x3 w8 t8) (hk (lC bV (cB.2 ⟨dI (by simp;omega),v6⟩) rfl) (hk (mB k5) (hk (aJ rfl x4 x0 u0) (hk (aJ rfl x5 x1 u1) (hk (aJ rfl x6 x2 u2) (hk (bP (by rw[<-e5,<-i6];kernel_rfl) Nat.one_ne_zero) (hk (dA x7) (hk (eD (by rw[k4];simp<;>omega)) (hk (aJ rfl k6 k3 j7) (hk (bT cc2) (hk (lC bV e6 rfl) (hk (lC bV e6 rfl) (hk (aJ rfl e3 e2 d4) (hk (dA w0) (hk (aJ rfl v9 v8 t9) (hk (bT cc3) (hk (aJ rfl n9 n8 m5) (hk (dA w4) (hk (lC nN d8 rfl) (hk (lA ⟨uL,oO⟩ u9 rfl) (hk (bP (by rw[<-f0,<-y4];kernel_rfl) Nat.one_ne_zero) (hk (kS K2 (by cases q6<;>simp)) (hk (dA K3) hn))))))))))))))))))))))))))))))
  exact⟨T1,p0,f9,h1,h2,F3,B1,H7,H8,D5.less (by intro x hx;simp only [List.mem_cons,List.not_mem_nil,or_false] at hx;rcases hx with rfl|rfl<;>simp)⟩
 ·intro cc2 cc3 hld0
  obtain⟨e4,m3,a8,e3,e2,d4,a5,b8,d2⟩:=aM (x:=((IntKind.wrap .i64 ((aD k N)+(aD (aK k 13) N))),2)) f2 jT (⟨⟨_,_,rfl,rfl,rfl⟩,rfl⟩)
  have c8:=j2.ext a5
  have d6:=a5.old j8
  have d7:=a5.old j9
  have b9:=a5.old e6
  have b7:e4=(i64 (aD (IntKind.wrap .i64 ((aD k N)+(aD (aK k 13) N))) 2)):=d2
  subst b7
  have d3:=j3.trans a5
  obtain⟨i3,w0,u3,e0,s8,n0,B7⟩:=aZ (o:=2) (v:=(i64 (aD (IntKind.wrap .i64 ((aD k N)+(aD (aK k 13) N))) 2))) (new:= [i64 (aD k N),i64 (aD (aK k 13) N),i64 (aD (IntKind.wrap .i64 ((aD k N)+(aD (aK k 13) N))) 2),i64 (aD (aK k 900) 9)]) d3 i0 b8 Jc b9 rfl rfl (Nat.zero_le _) (Nat.le_of_ble_eq_true rfl) rfl
  have r7:=c8.keep (by simp) (fun id h _=>e0 id h)
  have u4:=(e0 _ c4).trans d6
  have u5:=(e0 _ b6).trans d7
  obtain⟨w6,E0,f4,v9,v8,t9,d0,n1,s0⟩:=aM (x:=(k,31)) n0 jT (⟨⟨_,_,rfl,rfl,rfl⟩,rfl⟩)
  have r8:=r7.ext d0
  have m8:=d0.old u4
  have p9:=d0.old u5
  have c7:=d0.old u3
  have m7:w6=(i64 (aD k 31)):=s0
  subst m7
  have p3:=s8.trans d0
  obtain⟨p5,s3,e9,y3,z0,l8,A1⟩:=bE n1 ⟨[i64 (aD k N),i64 (aD (aK k 13) N),i64 (aD (IntKind.wrap .i64 ((aD k N)+(aD (aK k 13) N))) 2),i64 (aD (aK k 900) 9)],37,4,0,true⟩
  have L7:M0.next<=p5:=(mG e9 p3:)
  have F7:=fL m8 e9
  have dr6b156:=fL p9 e9
  have db69b156:=fL c7 e9
  have C7:=r8.new e9 l8
  have z1:=l8.old m8
  have z2:=l8.old p9
  have G9:=l8.old c7
  have E5:=p3.trans l8
  obtain⟨q5,f8,f6,w4,E6,A4,l1,q9,L3⟩:=gW (P:=Try.prog) (sT:=24) (xT:=24) (y:=32) (c:=2) C7 E5 A1 (by intro x hx;simp only [List.mem_cons,List.not_mem_nil,or_false] at hx;rcases hx with rfl|rfl|rfl|rfl<;>first|exact aA.lt_of_get z0|exact aA.lt_of_get G9|exact aA.lt_of_get z1|exact aA.lt_of_get z2) (by kernel_rfl) (by kernel_rfl) (by kernel_rfl) (by kernel_rfl) (by decide) (by decide) rfl k2 z0 (o:=0) (new:= [i64 (aD k N),i64 (aD (aK k 13) N),i64 (aD (IntKind.wrap .i64 ((aD k N)+(aD (aK k 13) N))) 2),i64 (aD (aK k 900) 9)]) rfl rfl rfl
  have H1:=q9 _ _ z1 (by simp)
  have d8:=q9 _ _ z2 (by simp)
  obtain⟨g8,K1,v2,r3,E9,n3,M4⟩:=aZ (o:=1) (v:=f8) (new:= [i64 N,f8]) E6 np A4 Qb H1 (by rw[cI l1.isCell];rfl) (by rw[cI l1.isCell];show(isCell _&&true)=true;rw[l1.isCell];rfl) (Nat.zero_le _) (Nat.le_of_ble_eq_true rfl) (by rw[cI l1.isCell];rfl)
  have D2:=l1.keep (by simp) (fun id h _=>r3 id h)
  have q1:=(r3 _ (Ne.symm j6)).trans d8
  have a1:oR Try.prog [] 100 Try.f10 (q10.loopAt 0) [(1,(aC bb o m c)),(2,(i64 md)),(6,(pt r6 0)),(7,(pt p 0)),(8,(i64 (i:Int)))] M [aP 10,aP 12,aP 15,aP 16,aP 22,aR 24 (i64 k),aR 32 (i64 N),bK 34 (i64 (aD k N)) a0,aR 42 (i64 N),bK 44 (i64 (aD (aK k 13) N)) a2,bK 50 (i64 (aD (aK k 170) 5)) a3,bK 56 (i64 (aD (aK k 900) 9)) a7,bK 60 (pt b1 0) (aA.mk a4.blks a4.next (aV 0 [⟨14,1,a3.next,a7.next⟩,⟨11,1,a2.next,a3.next⟩,⟨8,1,a0.next,a2.next⟩,⟨3,1,M.next,a0.next⟩,⟨2,1,M.next,M.next⟩]++M.hide) a4.log),jJ 62 a6,bK 66 (i64 (aD md 3)) b0,aP 69,aR 73 (i64 (aD k N)),aR 77 (i64 (aD (aK k 13) N)),bK 81 (i64 (aD (IntKind.wrap .i64 ((aD k N)+(aD (aK k 13) N))) 2)) a8,jJ 85 i3,bK 89 (i64 (aD k 31)) f4,aO 92,aR 96 S,aR 98 (.agg ⟨[i64 (aD k N),i64 (aD (aK k 13) N),i64 (aD (IntKind.wrap .i64 ((aD k N)+(aD (aK k 13) N))) 2),i64 (aD (aK k 900) 9)]⟩),bK 100 (aC p5 0 1 2) s3,.at 102 ((bif q5 then 1 else 2),.val f8,f6),jJ 106 g8] [1,2,6,7,8]=some (.normal,[some (aC bb o m c),some (i64 md),some (pt r6 0),some (pt p 0),some (i64 (IntKind.wrap .i64 ((i:Int)+(1:Int))))],g8,[qT (decide ((i:Int)<(m:Int))),qT (decide ((i:Int)<(m:Int))),qT (decide ((i:Int)<(m:Int))),qT (decide ((i:Int)<(40:Int))),.q (.inb (i:Int) m) (eT true),qL 3 bb (o+((i:Int):Int).toNat*1) M (i64 k),qL 3 p 0 (aA.mk M.blks M.next M.hide []) (i64 N),qC 19 [i64 k,i64 N] (aA.mk M.blks M.next M.hide []) (i64 (aD k N)) a0,qL 3 p 0 (aA.mk a0.blks a0.next (aV 64 [⟨3,1,M.next,a0.next⟩,⟨2,1,M.next,M.next⟩]++M.hide) a0.log) (i64 N),qT (Nat.blt p M.next),qC 19 [i64 (aK k 13),i64 N] (aA.mk a0.blks a0.next M.hide a0.log) (i64 (aD (aK k 13) N)) a2,qC 19 [i64 (aK k 170),i64 5] (aA.mk a2.blks a2.next M.hide a2.log) (i64 (aD (aK k 170) 5)) a3,qC 19 [i64 (aK k 900),i64 9] (aA.mk a3.blks a3.next M.hide a3.log) (i64 (aD (aK k 900) 9)) a7,.eq (cN Try.prog 37 (aA.mk a7.blks a7.next (aV 0 [⟨14,1,a3.next,a7.next⟩,⟨11,1,a2.next,a3.next⟩,⟨8,1,a0.next,a2.next⟩,⟨3,1,M.next,a0.next⟩,⟨2,1,M.next,M.next⟩]++M.hide) a7.log)) (1,.val (pt b1 0),(aA.mk a4.blks a4.next (aV 0 [⟨14,1,a3.next,a7.next⟩,⟨11,1,a2.next,a3.next⟩,⟨8,1,a0.next,a2.next⟩,⟨3,1,M.next,a0.next⟩,⟨2,1,M.next,M.next⟩]++M.hide) a4.log)),qS 37 b1 0 (.agg ⟨[i64 (aD k N),i64 (aD (aK k 13) N),i64 (aD (aK k 170) 5),i64 (aD (aK k 900) 9)]⟩) (aA.mk (aA.mk a4.blks a4.next (aV 0 [⟨14,1,a3.next,a7.next⟩,⟨11,1,a2.next,a3.next⟩,⟨8,1,a0.next,a2.next⟩,⟨3,1,M.next,a0.next⟩,⟨2,1,M.next,M.next⟩]++M.hide) a4.log).blks (aA.mk a4.blks a4.next (aV 0 [⟨14,1,a3.next,a7.next⟩,⟨11,1,a2.next,a3.next⟩,⟨8,1,a0.next,a2.next⟩,⟨3,1,M.next,a0.next⟩,⟨2,1,M.next,M.next⟩]++M.hide) a4.log).next M.hide (aA.mk a4.blks a4.next (aV 0 [⟨14,1,a3.next,a7.next⟩,⟨11,1,a2.next,a3.next⟩,⟨8,1,a0.next,a2.next⟩,⟨3,1,M.next,a0.next⟩,⟨2,1,M.next,M.next⟩]++M.hide) a4.log).log) a6,qT (cY [p] a6.log),qC 19 [i64 md,i64 3] (aA.mk a6.blks a6.next M.hide (a6.log++M.log)) (i64 (aD md 3)) b0,qT ((aD md 3)==(0:Int)),qL 3 b1 0 b0 (i64 (aD k N)),qL 3 b1 1 b0 (i64 (aD (aK k 13) N)),qC 19 [i64 (IntKind.wrap .i64 ((aD k N)+(aD (aK k 13) N))),i64 2] b0 (i64 (aD (IntKind.wrap .i64 ((aD k N)+(aD (aK k 13) N))) 2)) a8,qS 3 b1 2 (i64 (aD (IntKind.wrap .i64 ((aD k N)+(aD (aK k 13) N))) 2)) a8 i3,qC 19 [i64 k,i64 31] i3 (i64 (aD k 31)) f4,qF ((aD k 31)==(0:Int)),qL 24 p 1 f4 S,qL 37 b1 0 f4 (.agg ⟨[i64 (aD k N),i64 (aD (aK k 13) N),i64 (aD (IntKind.wrap .i64 ((aD k N)+(aD (aK k 13) N))) 2),i64 (aD (aK k 900) 9)]⟩),.eq (bH Try.prog 24 1 [(0,(.agg ⟨[i64 (aD k N),i64 (aD (aK k 13) N),i64 (aD (IntKind.wrap .i64 ((aD k N)+(aD (aK k 13) N))) 2),i64 (aD (aK k 900) 9)]⟩))] f4) (1,.val (aC p5 0 1 2),s3),.q (.append [24,24] S (aC p5 0 1 2) s3) ((bif q5 then 1 else 2),.val f8,f6),qS 24 p 1 f8 f6 g8]):=by cases q5<;>kernel_rfl
  dsimp only at a1
  have o1:aA.mk M.blks M.next M.hide []=R1:=k7.symm
  have o2:=pY ((X0).hide.trans (j5).hide.symm)
  have o3:=Jd 64 [⟨3,1,M.next,a0.next⟩,⟨2,1,M.next,M.next⟩] ((X0).hide.trans (j5).hide.symm)
  have o4:=pY ((X0).hide.trans (t3).hide.symm)
  have o5:=pY ((X0).hide.trans (t4).hide.symm)
  have o6:=pY ((X0).hide.trans (t5).hide.symm)
  have o7:=Ew (L:=(a6.log++M.log)) ((X0).hide.trans (t6).hide.symm)
  have o8:(aA.mk a6.blks a6.next a6.hide (a6.log++M.log))=p2:=c6.symm
  try rw[o1] at a1
  try rw[o2] at a1
  try rw[o3] at a1
  try rw[o4] at a1
  try rw[o5] at a1
  try rw[o6] at a1
  try rw[o7] at a1
  try rw[o8] at a1
  obtain⟨T1,h1,h2⟩:=Rd.told aG aF (fun B=>lQ (gP 19 Xc (gS _))) (fun _ _=>rfl) a1 (hw (bT g5) (hk (bT g5) (hk (bT w7) (hk (dY (by omega) (by simp at g5;omega)) (hk (fF (aS X0 hld0)) (hk (lC bV g6 rfl) (hk (aJ rfl x3 w8 t8) (hk (lC bV (cB.2 ⟨dI (by simp;omega),v6⟩) rfl) (hk (mB k5) (hk (aJ rfl x4 x0 u0) (hk (aJ rfl x5 x1 u1) (hk (aJ rfl x6 x2 u2) (hk (bP (by rw[<-e5,<-i6];kernel_rfl) Nat.one_ne_zero) (hk (dA x7) (hk (eD (by rw[k4];simp<;>omega)) (hk (aJ rfl k6 k3 j7) (hk (bT cc2) (hk (lC bV e6 rfl) (hk (lC bV e6 rfl) (hk (aJ rfl e3 e2 d4) (hk (dA w0) (hk (aJ rfl v9 v8 t9) (hk (bF cc3) (hk (lC nN m8 rfl) (hk (lA ⟨uL,oO⟩ c7 rfl) (hk (bP (by rw[<-e9,<-y3];kernel_rfl) Nat.one_ne_zero) (hk (kS w4 (by cases q5<;>simp)) (hk (dA K1) hn))))))))))))))))))))))))))))
  exact⟨T1,g8,f8,h1,h2,E9,n3,v2,q1,D2.less (by intro x hx;simp only [List.mem_cons,List.not_mem_nil,or_false] at hx;rcases hx with rfl|rfl<;>simp)⟩
 ·intro cc2 cc3 cc4 hld0
  obtain⟨e4,m3,a8,e3,e2,d4,a5,b8,d2⟩:=aM (x:=(md,3)) f2 jT (⟨⟨_,_,rfl,rfl,rfl⟩,rfl⟩)
  have c8:=j2.ext a5
  have d6:=a5.old j8
  have d7:=a5.old j9
  have b9:=a5.old e6
  have b7:e4=(i64 (aD md 3)):=d2
  subst b7
  have d3:=j3.trans a5
  obtain⟨j1,s7,b5,j0,i9,i5,a9,d9,i2⟩:=aM (x:=((IntKind.wrap .i64 ((aD (aK k 170) 5)*(aD k N))),3)) b8 jT (⟨⟨_,_,rfl,rfl,rfl⟩,rfl⟩)
  have i1:=c8.ext a9
  have g2:=a9.old d6
  have h3:=a9.old d7
  have g3:=a9.old b9
  have d5:j1=(i64 (aD (IntKind.wrap .i64 ((aD (aK k 170) 5)*(aD k N))) 3)):=i2
  subst d5
  have g9:=d3.trans a9
  obtain⟨i4,w1,u6,e1,s9,n2,B8⟩:=aZ (o:=2) (v:=(i64 (aD (IntKind.wrap .i64 ((aD (aK k 170) 5)*(aD k N))) 3))) (new:= [i64 (aD k N),i64 (aD (aK k 13) N),i64 (aD (IntKind.wrap .i64 ((aD (aK k 170) 5)*(aD k N))) 3),i64 (aD (aK k 900) 9)]) g9 i0 d9 Jc g3 rfl rfl (Nat.zero_le _) (Nat.le_of_ble_eq_true rfl) rfl
  have k8:=i1.keep (by simp) (fun id h _=>e1 id h)
  have c7:=(e1 _ c4).trans g2
  have k0:=(e1 _ b6).trans h3
  obtain⟨o9,x8,c0,n9,n8,m5,b4,h5,m2⟩:=aM (x:=(k,31)) n2 jT (⟨⟨_,_,rfl,rfl,rfl⟩,rfl⟩)
  have l0:=k8.ext b4
  have i7:=b4.old c7
  have h4:=b4.old k0
  have c3:=b4.old u6
  have h0:o9=(i64 (aD k 31)):=m2
  subst h0
  have j4:=s9.trans b4
  obtain⟨K8,O0,s4,J9,J1,G1,l9,A6,D9⟩:=aM (x:=((aK k 31),3)) h5 jT (⟨⟨_,_,rfl,rfl,rfl⟩,rfl⟩)
  have D0:=l0.ext l9
  have H2:=l9.old i7
  have H3:=l9.old h4
  have v2:=l9.old c3
  have y8:K8=(i64 (aD (aK k 31) 3)):=D9
  subst y8
  have E8:=j4.trans l9
  obtain⟨c1,o0,v3,n7,y1,A9,M5⟩:=aZ (o:=3) (v:=(i64 (IntKind.wrap .i64 ((2147483647:Int)-(aD (aK k 31) 3))))) (new:= [i64 (aD k N),i64 (aD (aK k 13) N),i64 (aD (IntKind.wrap .i64 ((aD (aK k 170) 5)*(aD k N))) 3),i64 (IntKind.wrap .i64 ((2147483647:Int)-(aD (aK k 31) 3)))]) E8 i0 A6 Jc v2 rfl rfl (Nat.zero_le _) (Nat.le_of_ble_eq_true rfl) rfl
  have D3:=D0.keep (by simp) (fun id h _=>n7 id h)
  have i8:=(n7 _ c4).trans H2
  have z6:=(n7 _ b6).trans H3
  obtain⟨p7,c2,f1,y5,z7,m1,h7⟩:=bE A9 ⟨[i64 (aD k N),i64 (aD (aK k 13) N),i64 (aD (IntKind.wrap .i64 ((aD (aK k 170) 5)*(aD k N))) 3),i64 (IntKind.wrap .i64 ((2147483647:Int)-(aD (aK k 31) 3)))],37,4,0,true⟩
  have L9:M0.next<=p7:=(mG f1 y1:)
  have F9:=fL i8 f1
  have dr6b196:=fL z6 f1
  have db69b196:=fL v3 f1
  have D4:=D3.new f1 m1
  have q2:=m1.old i8
  have k1:=m1.old z6
  have H6:=m1.old v3
  have F2:=y1.trans m1
  obtain⟨q7,g0,s6,K4,F4,B2,l4,r1,L5⟩:=gW (P:=Try.prog) (sT:=24) (xT:=24) (y:=32) (c:=2) D4 F2 h7 (by intro x hx;simp only [List.mem_cons,List.not_mem_nil,or_false] at hx;rcases hx with rfl|rfl|rfl|rfl<;>first|exact aA.lt_of_get z7|exact aA.lt_of_get H6|exact aA.lt_of_get q2|exact aA.lt_of_get k1) (by kernel_rfl) (by kernel_rfl) (by kernel_rfl) (by kernel_rfl) (by decide) (by decide) rfl k2 z7 (o:=0) (new:= [i64 (aD k N),i64 (aD (aK k 13) N),i64 (aD (IntKind.wrap .i64 ((aD (aK k 170) 5)*(aD k N))) 3),i64 (IntKind.wrap .i64 ((2147483647:Int)-(aD (aK k 31) 3)))]) rfl rfl rfl
  have H9:=r1 _ _ q2 (by simp)
  have I0:=r1 _ _ k1 (by simp)
  obtain⟨p1,K5,I1,r5,F5,B3,M7⟩:=aZ (o:=1) (v:=g0) (new:= [i64 N,g0]) F4 np B2 Qb H9 (by rw[cI l4.isCell];rfl) (by rw[cI l4.isCell];show(isCell _&&true)=true;rw[l4.isCell];rfl) (Nat.zero_le _) (Nat.le_of_ble_eq_true rfl) (by rw[cI l4.isCell];rfl)
  have D6:=l4.keep (by simp) (fun id h _=>r5 id h)
  have I2:=(r5 _ (Ne.symm j6)).trans I0
  have a1:oR Try.prog [] 100 Try.f10 (q10.loopAt 0) [(1,(aC bb o m c)),(2,(i64 md)),(6,(pt r6 0)),(7,(pt p 0)),(8,(i64 (i:Int)))] M [aP 10,aP 12,aP 15,aP 16,aP 22,aR 24 (i64 k),aR 32 (i64 N),bK 34 (i64 (aD k N)) a0,aR 42 (i64 N),bK 44 (i64 (aD (aK k 13) N)) a2,bK 50 (i64 (aD (aK k 170) 5)) a3,bK 56 (i64 (aD (aK k 900) 9)) a7,bK 60 (pt b1 0) (aA.mk a4.blks a4.next (aV 0 [⟨14,1,a3.next,a7.next⟩,⟨11,1,a2.next,a3.next⟩,⟨8,1,a0.next,a2.next⟩,⟨3,1,M.next,a0.next⟩,⟨2,1,M.next,M.next⟩]++M.hide) a4.log),jJ 62 a6,bK 66 (i64 (aD md 3)) b0,aO 69,bK 73 (i64 (aD md 3)) a8,aP 76,aR 80 (i64 (aD (aK k 170) 5)),aR 84 (i64 (aD k N)),bK 88 (i64 (aD (IntKind.wrap .i64 ((aD (aK k 170) 5)*(aD k N))) 3)) b5,jJ 92 i4,bK 96 (i64 (aD k 31)) c0,aP 99,bK 105 (i64 (aD (aK k 31) 3)) s4,jJ 111 c1,aR 115 S,aR 117 (.agg ⟨[i64 (aD k N),i64 (aD (aK k 13) N),i64 (aD (IntKind.wrap .i64 ((aD (aK k 170) 5)*(aD k N))) 3),i64 (IntKind.wrap .i64 ((2147483647:Int)-(aD (aK k 31) 3)))]⟩),bK 119 (aC p7 0 1 2) c2,.at 121 ((bif q7 then 1 else 2),.val g0,s6),jJ 125 p1] [1,2,6,7,8]=some (.normal,[some (aC bb o m c),some (i64 md),some (pt r6 0),some (pt p 0),some (i64 (IntKind.wrap .i64 ((i:Int)+(1:Int))))],p1,[qT (decide ((i:Int)<(m:Int))),qT (decide ((i:Int)<(m:Int))),qT (decide ((i:Int)<(m:Int))),qT (decide ((i:Int)<(40:Int))),.q (.inb (i:Int) m) (eT true),qL 3 bb (o+((i:Int):Int).toNat*1) M (i64 k),qL 3 p 0 (aA.mk M.blks M.next M.hide []) (i64 N),qC 19 [i64 k,i64 N] (aA.mk M.blks M.next M.hide []) (i64 (aD k N)) a0,qL 3 p 0 (aA.mk a0.blks a0.next (aV 64 [⟨3,1,M.next,a0.next⟩,⟨2,1,M.next,M.next⟩]++M.hide) a0.log) (i64 N),qT (Nat.blt p M.next),qC 19 [i64 (aK k 13),i64 N] (aA.mk a0.blks a0.next M.hide a0.log) (i64 (aD (aK k 13) N)) a2,qC 19 [i64 (aK k 170),i64 5] (aA.mk a2.blks a2.next M.hide a2.log) (i64 (aD (aK k 170) 5)) a3,qC 19 [i64 (aK k 900),i64 9] (aA.mk a3.blks a3.next M.hide a3.log) (i64 (aD (aK k 900) 9)) a7,.eq (cN Try.prog 37 (aA.mk a7.blks a7.next (aV 0 [⟨14,1,a3.next,a7.next⟩,⟨11,1,a2.next,a3.next⟩,⟨8,1,a0.next,a2.next⟩,⟨3,1,M.next,a0.next⟩,⟨2,1,M.next,M.next⟩]++M.hide) a7.log)) (1,.val (pt b1 0),(aA.mk a4.blks a4.next (aV 0 [⟨14,1,a3.next,a7.next⟩,⟨11,1,a2.next,a3.next⟩,⟨8,1,a0.next,a2.next⟩,⟨3,1,M.next,a0.next⟩,⟨2,1,M.next,M.next⟩]++M.hide) a4.log)),qS 37 b1 0 (.agg ⟨[i64 (aD k N),i64 (aD (aK k 13) N),i64 (aD (aK k 170) 5),i64 (aD (aK k 900) 9)]⟩) (aA.mk (aA.mk a4.blks a4.next (aV 0 [⟨14,1,a3.next,a7.next⟩,⟨11,1,a2.next,a3.next⟩,⟨8,1,a0.next,a2.next⟩,⟨3,1,M.next,a0.next⟩,⟨2,1,M.next,M.next⟩]++M.hide) a4.log).blks (aA.mk a4.blks a4.next (aV 0 [⟨14,1,a3.next,a7.next⟩,⟨11,1,a2.next,a3.next⟩,⟨8,1,a0.next,a2.next⟩,⟨3,1,M.next,a0.next⟩,⟨2,1,M.next,M.next⟩]++M.hide) a4.log).next M.hide (aA.mk a4.blks a4.next (aV 0 [⟨14,1,a3.next,a7.next⟩,⟨11,1,a2.next,a3.next⟩,⟨8,1,a0.next,a2.next⟩,⟨3,1,M.next,a0.next⟩,⟨2,1,M.next,M.next⟩]++M.hide) a4.log).log) a6,qT (cY [p] a6.log),qC 19 [i64 md,i64 3] (aA.mk a6.blks a6.next M.hide (a6.log++M.log)) (i64 (aD md 3)) b0,qF ((aD md 3)==(0:Int)),qC 19 [i64 md,i64 3] b0 (i64 (aD md 3)) a8,qT ((aD md 3)==(1:Int)),qL 3 b1 2 a8 (i64 (aD (aK k 170) 5)),qL 3 b1 0 a8 (i64 (aD k N)),qC 19 [i64 (IntKind.wrap .i64 ((aD (aK k 170) 5)*(aD k N))),i64 3] a8 (i64 (aD (IntKind.wrap .i64 ((aD (aK k 170) 5)*(aD k N))) 3)) b5,qS 3 b1 2 (i64 (aD (IntKind.wrap .i64 ((aD (aK k 170) 5)*(aD k N))) 3)) b5 i4,qC 19 [i64 k,i64 31] i4 (i64 (aD k 31)) c0,qT ((aD k 31)==(0:Int)),qC 19 [i64 (aK k 31),i64 3] c0 (i64 (aD (aK k 31) 3)) s4,qS 3 b1 3 (i64 (IntKind.wrap .i64 ((2147483647:Int)-(aD (aK k 31) 3)))) s4 c1,qL 24 p 1 c1 S,qL 37 b1 0 c1 (.agg ⟨[i64 (aD k N),i64 (aD (aK k 13) N),i64 (aD (IntKind.wrap .i64 ((aD (aK k 170) 5)*(aD k N))) 3),i64 (IntKind.wrap .i64 ((2147483647:Int)-(aD (aK k 31) 3)))]⟩),.eq (bH Try.prog 24 1 [(0,(.agg ⟨[i64 (aD k N),i64 (aD (aK k 13) N),i64 (aD (IntKind.wrap .i64 ((aD (aK k 170) 5)*(aD k N))) 3),i64 (IntKind.wrap .i64 ((2147483647:Int)-(aD (aK k 31) 3)))]⟩))] c1) (1,.val (aC p7 0 1 2),c2),.q (.append [24,24] S (aC p7 0 1 2) c2) ((bif q7 then 1 else 2),.val g0,s6),qS 24 p 1 g0 s6 p1]):=by cases q7<;>kernel_rfl
  dsimp only at a1
  have o1:aA.mk M.blks M.next M.hide []=R1:=k7.symm
  have o2:=pY ((X0).hide.trans (j5).hide.symm)
  have o3:=Jd 64 [⟨3,1,M.next,a0.next⟩,⟨2,1,M.next,M.next⟩] ((X0).hide.trans (j5).hide.symm)
  have o4:=pY ((X0).hide.trans (t3).hide.symm)
  have o5:=pY ((X0).hide.trans (t4).hide.symm)
  have o6:=pY ((X0).hide.trans (t5).hide.symm)
  have o7:=Ew (L:=(a6.log++M.log)) ((X0).hide.trans (t6).hide.symm)
  have o8:(aA.mk a6.blks a6.next a6.hide (a6.log++M.log))=p2:=c6.symm
  try rw[o1] at a1
  try rw[o2] at a1
  try rw[o3] at a1
  try rw[o4] at a1
  try rw[o5] at a1
  try rw[o6] at a1
  try rw[o7] at a1
  try rw[o8] at a1
  obtain⟨T1,h1,h2⟩:=Rd.told aG aF (fun B=>lQ (gP 19 Xc (gS _))) (fun _ _=>rfl) a1 (hw (bT g5) (hk (bT g5) (hk (bT w7) (hk (dY (by omega) (by simp at g5;omega)) (hk (fF (aS X0 hld0)) (hk (lC bV g6 rfl) (hk (aJ rfl x3 w8 t8) (hk (lC bV (cB.2 ⟨dI (by simp;omega),v6⟩) rfl) (hk (mB k5) (hk (aJ rfl x4 x0 u0) (hk (aJ rfl x5 x1 u1) (hk (aJ rfl x6 x2 u2) (hk (bP (by rw[<-e5,<-i6];kernel_rfl) Nat.one_ne_zero) (hk (dA x7) (hk (eD (by rw[k4];simp<;>omega)) (hk (aJ rfl k6 k3 j7) (hk (bF cc2) (hk (aJ rfl e3 e2 d4) (hk (bT cc3) (hk (lC bV b9 rfl) (hk (lC bV b9 rfl) (hk (aJ rfl j0 i9 i5) (hk (dA w1) (hk (aJ rfl n9 n8 m5) (hk (bT cc4) (hk (aJ rfl J9 J1 G1) (hk (dA o0) (hk (lC nN i8 rfl) (hk (lA ⟨uL,oO⟩ v3 rfl) (hk (bP (by rw[<-f1,<-y5];kernel_rfl) Nat.one_ne_zero) (hk (kS K4 (by cases q7<;>simp)) (hk (dA K5) hn))))))))))))))))))))))))))))))))
  exact⟨T1,p1,g0,h1,h2,F5,B3,I1,I2,D6.less (by intro x hx;simp only [List.mem_cons,List.not_mem_nil,or_false] at hx;rcases hx with rfl|rfl<;>simp)⟩
 ·intro cc2 cc3 cc4 hld0
  obtain⟨e4,m3,a8,e3,e2,d4,a5,b8,d2⟩:=aM (x:=(md,3)) f2 jT (⟨⟨_,_,rfl,rfl,rfl⟩,rfl⟩)
  have c8:=j2.ext a5
  have d6:=a5.old j8
  have d7:=a5.old j9
  have b9:=a5.old e6
  have b7:e4=(i64 (aD md 3)):=d2
  subst b7
  have d3:=j3.trans a5
  obtain⟨j1,s7,b5,j0,i9,i5,a9,d9,i2⟩:=aM (x:=((IntKind.wrap .i64 ((aD (aK k 170) 5)*(aD k N))),3)) b8 jT (⟨⟨_,_,rfl,rfl,rfl⟩,rfl⟩)
  have i1:=c8.ext a9
  have g2:=a9.old d6
  have h3:=a9.old d7
  have g3:=a9.old b9
  have d5:j1=(i64 (aD (IntKind.wrap .i64 ((aD (aK k 170) 5)*(aD k N))) 3)):=i2
  subst d5
  have g9:=d3.trans a9
  obtain⟨i4,w1,u6,e1,s9,n2,B8⟩:=aZ (o:=2) (v:=(i64 (aD (IntKind.wrap .i64 ((aD (aK k 170) 5)*(aD k N))) 3))) (new:= [i64 (aD k N),i64 (aD (aK k 13) N),i64 (aD (IntKind.wrap .i64 ((aD (aK k 170) 5)*(aD k N))) 3),i64 (aD (aK k 900) 9)]) g9 i0 d9 Jc g3 rfl rfl (Nat.zero_le _) (Nat.le_of_ble_eq_true rfl) rfl
  have k8:=i1.keep (by simp) (fun id h _=>e1 id h)
  have c7:=(e1 _ c4).trans g2
  have k0:=(e1 _ b6).trans h3
  obtain⟨o9,x8,c0,n9,n8,m5,b4,h5,m2⟩:=aM (x:=(k,31)) n2 jT (⟨⟨_,_,rfl,rfl,rfl⟩,rfl⟩)
  have l0:=k8.ext b4
  have i7:=b4.old c7
  have h4:=b4.old k0
  have c3:=b4.old u6
  have h0:o9=(i64 (aD k 31)):=m2
  subst h0
  have j4:=s9.trans b4
  obtain⟨g1,c5,b2,m6,m9,d1,h6⟩:=bE h5 ⟨[i64 (aD k N),i64 (aD (aK k 13) N),i64 (aD (IntKind.wrap .i64 ((aD (aK k 170) 5)*(aD k N))) 3),i64 (aD (aK k 900) 9)],37,4,0,true⟩
  have B6:M0.next<=g1:=(mG b2 j4:)
  have t7:=fL i7 b2
  have p8:=fL h4 b2
  have m4:=fL c3 b2
  have l2:=l0.new b2 d1
  have d8:=d1.old i7
  have e7:=d1.old h4
  have v1:=d1.old c3
  have t0:=j4.trans d1
  obtain⟨g4,b3,c1,o0,t1,n4,c9,h8,B5⟩:=gW (P:=Try.prog) (sT:=24) (xT:=24) (y:=32) (c:=2) l2 t0 h6 (by intro x hx;simp only [List.mem_cons,List.not_mem_nil,or_false] at hx;rcases hx with rfl|rfl|rfl|rfl<;>first|exact aA.lt_of_get m9|exact aA.lt_of_get v1|exact aA.lt_of_get d8|exact aA.lt_of_get e7) (by kernel_rfl) (by kernel_rfl) (by kernel_rfl) (by kernel_rfl) (by decide) (by decide) rfl k2 m9 (o:=0) (new:= [i64 (aD k N),i64 (aD (aK k 13) N),i64 (aD (IntKind.wrap .i64 ((aD (aK k 170) 5)*(aD k N))) 3),i64 (aD (aK k 900) 9)]) rfl rfl rfl
  have v4:=h8 _ _ d8 (by simp)
  have i8:=h8 _ _ e7 (by simp)
  obtain⟨c2,w5,v5,h9,t2,h7,B9⟩:=aZ (o:=1) (v:=b3) (new:= [i64 N,b3]) t1 np n4 Qb v4 (by rw[cI c9.isCell];rfl) (by rw[cI c9.isCell];show(isCell _&&true)=true;rw[c9.isCell];rfl) (Nat.zero_le _) (Nat.le_of_ble_eq_true rfl) (by rw[cI c9.isCell];rfl)
  have r9:=c9.keep (by simp) (fun id h _=>h9 id h)
  have k1:=(h9 _ (Ne.symm j6)).trans i8
  have a1:oR Try.prog [] 100 Try.f10 (q10.loopAt 0) [(1,(aC bb o m c)),(2,(i64 md)),(6,(pt r6 0)),(7,(pt p 0)),(8,(i64 (i:Int)))] M [aP 10,aP 12,aP 15,aP 16,aP 22,aR 24 (i64 k),aR 32 (i64 N),bK 34 (i64 (aD k N)) a0,aR 42 (i64 N),bK 44 (i64 (aD (aK k 13) N)) a2,bK 50 (i64 (aD (aK k 170) 5)) a3,bK 56 (i64 (aD (aK k 900) 9)) a7,bK 60 (pt b1 0) (aA.mk a4.blks a4.next (aV 0 [⟨14,1,a3.next,a7.next⟩,⟨11,1,a2.next,a3.next⟩,⟨8,1,a0.next,a2.next⟩,⟨3,1,M.next,a0.next⟩,⟨2,1,M.next,M.next⟩]++M.hide) a4.log),jJ 62 a6,bK 66 (i64 (aD md 3)) b0,aO 69,bK 73 (i64 (aD md 3)) a8,aP 76,aR 80 (i64 (aD (aK k 170) 5)),aR 84 (i64 (aD k N)),bK 88 (i64 (aD (IntKind.wrap .i64 ((aD (aK k 170) 5)*(aD k N))) 3)) b5,jJ 92 i4,bK 96 (i64 (aD k 31)) c0,aO 99,aR 103 S,aR 105 (.agg ⟨[i64 (aD k N),i64 (aD (aK k 13) N),i64 (aD (IntKind.wrap .i64 ((aD (aK k 170) 5)*(aD k N))) 3),i64 (aD (aK k 900) 9)]⟩),bK 107 (aC g1 0 1 2) c5,.at 109 ((bif g4 then 1 else 2),.val b3,c1),jJ 113 c2] [1,2,6,7,8]=some (.normal,[some (aC bb o m c),some (i64 md),some (pt r6 0),some (pt p 0),some (i64 (IntKind.wrap .i64 ((i:Int)+(1:Int))))],c2,[qT (decide ((i:Int)<(m:Int))),qT (decide ((i:Int)<(m:Int))),qT (decide ((i:Int)<(m:Int))),qT (decide ((i:Int)<(40:Int))),.q (.inb (i:Int) m) (eT true),qL 3 bb (o+((i:Int):Int).toNat*1) M (i64 k),qL 3 p 0 (aA.mk M.blks M.next M.hide []) (i64 N),qC 19 [i64 k,i64 N] (aA.mk M.blks M.next M.hide []) (i64 (aD k N)) a0,qL 3 p 0 (aA.mk a0.blks a0.next (aV 64 [⟨3,1,M.next,a0.next⟩,⟨2,1,M.next,M.next⟩]++M.hide) a0.log) (i64 N),qT (Nat.blt p M.next),qC 19 [i64 (aK k 13),i64 N] (aA.mk a0.blks a0.next M.hide a0.log) (i64 (aD (aK k 13) N)) a2,qC 19 [i64 (aK k 170),i64 5] (aA.mk a2.blks a2.next M.hide a2.log) (i64 (aD (aK k 170) 5)) a3,qC 19 [i64 (aK k 900),i64 9] (aA.mk a3.blks a3.next M.hide a3.log) (i64 (aD (aK k 900) 9)) a7,.eq (cN Try.prog 37 (aA.mk a7.blks a7.next (aV 0 [⟨14,1,a3.next,a7.next⟩,⟨11,1,a2.next,a3.next⟩,⟨8,1,a0.next,a2.next⟩,⟨3,1,M.next,a0.next⟩,⟨2,1,M.next,M.next⟩]++M.hide) a7.log)) (1,.val (pt b1 0),(aA.mk a4.blks a4.next (aV 0 [⟨14,1,a3.next,a7.next⟩,⟨11,1,a2.next,a3.next⟩,⟨8,1,a0.next,a2.next⟩,⟨3,1,M.next,a0.next⟩,⟨2,1,M.next,M.next⟩]++M.hide) a4.log)),qS 37 b1 0 (.agg ⟨[i64 (aD k N),i64 (aD (aK k 13) N),i64 (aD (aK k 170) 5),i64 (aD (aK k 900) 9)]⟩) (aA.mk (aA.mk a4.blks a4.next (aV 0 [⟨14,1,a3.next,a7.next⟩,⟨11,1,a2.next,a3.next⟩,⟨8,1,a0.next,a2.next⟩,⟨3,1,M.next,a0.next⟩,⟨2,1,M.next,M.next⟩]++M.hide) a4.log).blks (aA.mk a4.blks a4.next (aV 0 [⟨14,1,a3.next,a7.next⟩,⟨11,1,a2.next,a3.next⟩,⟨8,1,a0.next,a2.next⟩,⟨3,1,M.next,a0.next⟩,⟨2,1,M.next,M.next⟩]++M.hide) a4.log).next M.hide (aA.mk a4.blks a4.next (aV 0 [⟨14,1,a3.next,a7.next⟩,⟨11,1,a2.next,a3.next⟩,⟨8,1,a0.next,a2.next⟩,⟨3,1,M.next,a0.next⟩,⟨2,1,M.next,M.next⟩]++M.hide) a4.log).log) a6,qT (cY [p] a6.log),qC 19 [i64 md,i64 3] (aA.mk a6.blks a6.next M.hide (a6.log++M.log)) (i64 (aD md 3)) b0,qF ((aD md 3)==(0:Int)),qC 19 [i64 md,i64 3] b0 (i64 (aD md 3)) a8,qT ((aD md 3)==(1:Int)),qL 3 b1 2 a8 (i64 (aD (aK k 170) 5)),qL 3 b1 0 a8 (i64 (aD k N)),qC 19 [i64 (IntKind.wrap .i64 ((aD (aK k 170) 5)*(aD k N))),i64 3] a8 (i64 (aD (IntKind.wrap .i64 ((aD (aK k 170) 5)*(aD k N))) 3)) b5,qS 3 b1 2 (i64 (aD (IntKind.wrap .i64 ((aD (aK k 170) 5)*(aD k N))) 3)) b5 i4,qC 19 [i64 k,i64 31] i4 (i64 (aD k 31)) c0,qF ((aD k 31)==(0:Int)),qL 24 p 1 c0 S,qL 37 b1 0 c0 (.agg ⟨[i64 (aD k N),i64 (aD (aK k 13) N),i64 (aD (IntKind.wrap .i64 ((aD (aK k 170) 5)*(aD k N))) 3),i64 (aD (aK k 900) 9)]⟩),.eq (bH Try.prog 24 1 [(0,(.agg ⟨[i64 (aD k N),i64 (aD (aK k 13) N),i64 (aD (IntKind.wrap .i64 ((aD (aK k 170) 5)*(aD k N))) 3),i64 (aD (aK k 900) 9)]⟩))] c0) (1,.val (aC g1 0 1 2),c5),.q (.append [24,24] S (aC g1 0 1 2) c5) ((bif g4 then 1 else 2),.val b3,c1),qS 24 p 1 b3 c1 c2]):=by cases g4<;>kernel_rfl
  dsimp only at a1
  have o1:aA.mk M.blks M.next M.hide []=R1:=k7.symm
  have o2:=pY ((X0).hide.trans (j5).hide.symm)
  have o3:=Jd 64 [⟨3,1,M.next,a0.next⟩,⟨2,1,M.next,M.next⟩] ((X0).hide.trans (j5).hide.symm)
  have o4:=pY ((X0).hide.trans (t3).hide.symm)
  have o5:=pY ((X0).hide.trans (t4).hide.symm)
  have o6:=pY ((X0).hide.trans (t5).hide.symm)
  have o7:=Ew (L:=(a6.log++M.log)) ((X0).hide.trans (t6).hide.symm)
  have o8:(aA.mk a6.blks a6.next a6.hide (a6.log++M.log))=p2:=c6.symm
  try rw[o1] at a1
  try rw[o2] at a1
  try rw[o3] at a1
  try rw[o4] at a1
  try rw[o5] at a1
  try rw[o6] at a1
  try rw[o7] at a1
  try rw[o8] at a1
  obtain⟨T1,h1,h2⟩:=Rd.told aG aF (fun B=>lQ (gP 19 Xc (gS _))) (fun _ _=>rfl) a1 (hw (bT g5) (hk (bT g5) (hk (bT w7) (hk (dY (by omega) (by simp at g5;omega)) (hk (fF (aS X0 hld0)) (hk (lC bV g6 rfl) (hk (aJ rfl x3 w8 t8) (hk (lC bV (cB.2 ⟨dI (by simp;omega),v6⟩) rfl) (hk (mB k5) (hk (aJ rfl x4 x0 u0) (hk (aJ rfl x5 x1 u1) (hk (aJ rfl x6 x2 u2) (hk (bP (by rw[<-e5,<-i6];kernel_rfl) Nat.one_ne_zero) (hk (dA x7) (hk (eD (by rw[k4];simp<;>omega)) (hk (aJ rfl k6 k3 j7) (hk (bF cc2) (hk (aJ rfl e3 e2 d4) (hk (bT cc3) (hk (lC bV b9 rfl) (hk (lC bV b9 rfl) (hk (aJ rfl j0 i9 i5) (hk (dA w1) (hk (aJ rfl n9 n8 m5) (hk (bF cc4) (hk (lC nN i7 rfl) (hk (lA ⟨uL,oO⟩ c3 rfl) (hk (bP (by rw[<-b2,<-m6];kernel_rfl) Nat.one_ne_zero) (hk (kS o0 (by cases g4<;>simp)) (hk (dA w5) hn))))))))))))))))))))))))))))))
  exact⟨T1,c2,b3,h1,h2,t2,h7,v5,k1,r9.less (by intro x hx;simp only [List.mem_cons,List.not_mem_nil,or_false] at hx;rcases hx with rfl|rfl<;>simp)⟩
 ·intro cc2 cc3 cc4 hld0
  obtain⟨e4,m3,a8,e3,e2,d4,a5,b8,d2⟩:=aM (x:=(md,3)) f2 jT (⟨⟨_,_,rfl,rfl,rfl⟩,rfl⟩)
  have c8:=j2.ext a5
  have d6:=a5.old j8
  have d7:=a5.old j9
  have b9:=a5.old e6
  have b7:e4=(i64 (aD md 3)):=d2
  subst b7
  have d3:=j3.trans a5
  obtain⟨j1,s7,b5,j0,i9,i5,a9,d9,i2⟩:=aM (x:=(k,31)) b8 jT (⟨⟨_,_,rfl,rfl,rfl⟩,rfl⟩)
  have i1:=c8.ext a9
  have g2:=a9.old d6
  have h3:=a9.old d7
  have g3:=a9.old b9
  have d5:j1=(i64 (aD k 31)):=i2
  subst d5
  have g9:=d3.trans a9
  obtain⟨K7,N9,s2,J8,J0,G0,l7,A0,D8⟩:=aM (x:=((aK k 31),3)) d9 jT (⟨⟨_,_,rfl,rfl,rfl⟩,rfl⟩)
  have C6:=i1.ext l7
  have G6:=l7.old g2
  have G7:=l7.old h3
  have G8:=l7.old g3
  have y7:K7=(i64 (aD (aK k 31) 3)):=D8
  subst y7
  have E2:=g9.trans l7
  obtain⟨f5,w2,u7,n5,x9,A3,M1⟩:=aZ (o:=3) (v:=(i64 (IntKind.wrap .i64 ((2147483647:Int)-(aD (aK k 31) 3))))) (new:= [i64 (aD k N),i64 (aD (aK k 13) N),i64 (aD (aK k 170) 5),i64 (IntKind.wrap .i64 ((2147483647:Int)-(aD (aK k 31) 3)))]) E2 i0 A0 Jc G8 rfl rfl (Nat.zero_le _) (Nat.le_of_ble_eq_true rfl) rfl
  have C8:=C6.keep (by simp) (fun id h _=>n5 id h)
  have c3:=(n5 _ c4).trans G6
  have z3:=(n5 _ b6).trans G7
  obtain⟨g1,c5,b2,m6,m9,d1,h6⟩:=bE A3 ⟨[i64 (aD k N),i64 (aD (aK k 13) N),i64 (aD (aK k 170) 5),i64 (IntKind.wrap .i64 ((2147483647:Int)-(aD (aK k 31) 3)))],37,4,0,true⟩
  have B6:M0.next<=g1:=(mG b2 x9:)
  have t7:=fL c3 b2
  have p8:=fL z3 b2
  have m4:=fL u7 b2
  have l2:=C8.new b2 d1
  have d8:=d1.old c3
  have e7:=d1.old z3
  have v1:=d1.old u7
  have t0:=x9.trans d1
  obtain⟨g4,b3,c1,o0,t1,n4,c9,h8,B5⟩:=gW (P:=Try.prog) (sT:=24) (xT:=24) (y:=32) (c:=2) l2 t0 h6 (by intro x hx;simp only [List.mem_cons,List.not_mem_nil,or_false] at hx;rcases hx with rfl|rfl|rfl|rfl<;>first|exact aA.lt_of_get m9|exact aA.lt_of_get v1|exact aA.lt_of_get d8|exact aA.lt_of_get e7) (by kernel_rfl) (by kernel_rfl) (by kernel_rfl) (by kernel_rfl) (by decide) (by decide) rfl k2 m9 (o:=0) (new:= [i64 (aD k N),i64 (aD (aK k 13) N),i64 (aD (aK k 170) 5),i64 (IntKind.wrap .i64 ((2147483647:Int)-(aD (aK k 31) 3)))]) rfl rfl rfl
  have v4:=h8 _ _ d8 (by simp)
  have i8:=h8 _ _ e7 (by simp)
  obtain⟨c2,w5,v5,h9,t2,h7,B9⟩:=aZ (o:=1) (v:=b3) (new:= [i64 N,b3]) t1 np n4 Qb v4 (by rw[cI c9.isCell];rfl) (by rw[cI c9.isCell];show(isCell _&&true)=true;rw[c9.isCell];rfl) (Nat.zero_le _) (Nat.le_of_ble_eq_true rfl) (by rw[cI c9.isCell];rfl)
  have r9:=c9.keep (by simp) (fun id h _=>h9 id h)
  have k1:=(h9 _ (Ne.symm j6)).trans i8
  have a1:oR Try.prog [] 100 Try.f10 (q10.loopAt 0) [(1,(aC bb o m c)),(2,(i64 md)),(6,(pt r6 0)),(7,(pt p 0)),(8,(i64 (i:Int)))] M [aP 10,aP 12,aP 15,aP 16,aP 22,aR 24 (i64 k),aR 32 (i64 N),bK 34 (i64 (aD k N)) a0,aR 42 (i64 N),bK 44 (i64 (aD (aK k 13) N)) a2,bK 50 (i64 (aD (aK k 170) 5)) a3,bK 56 (i64 (aD (aK k 900) 9)) a7,bK 60 (pt b1 0) (aA.mk a4.blks a4.next (aV 0 [⟨14,1,a3.next,a7.next⟩,⟨11,1,a2.next,a3.next⟩,⟨8,1,a0.next,a2.next⟩,⟨3,1,M.next,a0.next⟩,⟨2,1,M.next,M.next⟩]++M.hide) a4.log),jJ 62 a6,bK 66 (i64 (aD md 3)) b0,aO 69,bK 73 (i64 (aD md 3)) a8,aO 76,bK 80 (i64 (aD k 31)) b5,aP 83,bK 89 (i64 (aD (aK k 31) 3)) s2,jJ 95 f5,aR 99 S,aR 101 (.agg ⟨[i64 (aD k N),i64 (aD (aK k 13) N),i64 (aD (aK k 170) 5),i64 (IntKind.wrap .i64 ((2147483647:Int)-(aD (aK k 31) 3)))]⟩),bK 103 (aC g1 0 1 2) c5,.at 105 ((bif g4 then 1 else 2),.val b3,c1),jJ 109 c2] [1,2,6,7,8]=some (.normal,[some (aC bb o m c),some (i64 md),some (pt r6 0),some (pt p 0),some (i64 (IntKind.wrap .i64 ((i:Int)+(1:Int))))],c2,[qT (decide ((i:Int)<(m:Int))),qT (decide ((i:Int)<(m:Int))),qT (decide ((i:Int)<(m:Int))),qT (decide ((i:Int)<(40:Int))),.q (.inb (i:Int) m) (eT true),qL 3 bb (o+((i:Int):Int).toNat*1) M (i64 k),qL 3 p 0 (aA.mk M.blks M.next M.hide []) (i64 N),qC 19 [i64 k,i64 N] (aA.mk M.blks M.next M.hide []) (i64 (aD k N)) a0,qL 3 p 0 (aA.mk a0.blks a0.next (aV 64 [⟨3,1,M.next,a0.next⟩,⟨2,1,M.next,M.next⟩]++M.hide) a0.log) (i64 N),qT (Nat.blt p M.next),qC 19 [i64 (aK k 13),i64 N] (aA.mk a0.blks a0.next M.hide a0.log) (i64 (aD (aK k 13) N)) a2,qC 19 [i64 (aK k 170),i64 5] (aA.mk a2.blks a2.next M.hide a2.log) (i64 (aD (aK k 170) 5)) a3,qC 19 [i64 (aK k 900),i64 9] (aA.mk a3.blks a3.next M.hide a3.log) (i64 (aD (aK k 900) 9)) a7,.eq (cN Try.prog 37 (aA.mk a7.blks a7.next (aV 0 [⟨14,1,a3.next,a7.next⟩,⟨11,1,a2.next,a3.next⟩,⟨8,1,a0.next,a2.next⟩,⟨3,1,M.next,a0.next⟩,⟨2,1,M.next,M.next⟩]++M.hide) a7.log)) (1,.val (pt b1 0),(aA.mk a4.blks a4.next (aV 0 [⟨14,1,a3.next,a7.next⟩,⟨11,1,a2.next,a3.next⟩,⟨8,1,a0.next,a2.next⟩,⟨3,1,M.next,a0.next⟩,⟨2,1,M.next,M.next⟩]++M.hide) a4.log)),qS 37 b1 0 (.agg ⟨[i64 (aD k N),i64 (aD (aK k 13) N),i64 (aD (aK k 170) 5),i64 (aD (aK k 900) 9)]⟩) (aA.mk (aA.mk a4.blks a4.next (aV 0 [⟨14,1,a3.next,a7.next⟩,⟨11,1,a2.next,a3.next⟩,⟨8,1,a0.next,a2.next⟩,⟨3,1,M.next,a0.next⟩,⟨2,1,M.next,M.next⟩]++M.hide) a4.log).blks (aA.mk a4.blks a4.next (aV 0 [⟨14,1,a3.next,a7.next⟩,⟨11,1,a2.next,a3.next⟩,⟨8,1,a0.next,a2.next⟩,⟨3,1,M.next,a0.next⟩,⟨2,1,M.next,M.next⟩]++M.hide) a4.log).next M.hide (aA.mk a4.blks a4.next (aV 0 [⟨14,1,a3.next,a7.next⟩,⟨11,1,a2.next,a3.next⟩,⟨8,1,a0.next,a2.next⟩,⟨3,1,M.next,a0.next⟩,⟨2,1,M.next,M.next⟩]++M.hide) a4.log).log) a6,qT (cY [p] a6.log),qC 19 [i64 md,i64 3] (aA.mk a6.blks a6.next M.hide (a6.log++M.log)) (i64 (aD md 3)) b0,qF ((aD md 3)==(0:Int)),qC 19 [i64 md,i64 3] b0 (i64 (aD md 3)) a8,qF ((aD md 3)==(1:Int)),qC 19 [i64 k,i64 31] a8 (i64 (aD k 31)) b5,qT ((aD k 31)==(0:Int)),qC 19 [i64 (aK k 31),i64 3] b5 (i64 (aD (aK k 31) 3)) s2,qS 3 b1 3 (i64 (IntKind.wrap .i64 ((2147483647:Int)-(aD (aK k 31) 3)))) s2 f5,qL 24 p 1 f5 S,qL 37 b1 0 f5 (.agg ⟨[i64 (aD k N),i64 (aD (aK k 13) N),i64 (aD (aK k 170) 5),i64 (IntKind.wrap .i64 ((2147483647:Int)-(aD (aK k 31) 3)))]⟩),.eq (bH Try.prog 24 1 [(0,(.agg ⟨[i64 (aD k N),i64 (aD (aK k 13) N),i64 (aD (aK k 170) 5),i64 (IntKind.wrap .i64 ((2147483647:Int)-(aD (aK k 31) 3)))]⟩))] f5) (1,.val (aC g1 0 1 2),c5),.q (.append [24,24] S (aC g1 0 1 2) c5) ((bif g4 then 1 else 2),.val b3,c1),qS 24 p 1 b3 c1 c2]):=by cases g4<;>kernel_rfl
  dsimp only at a1
  have o1:aA.mk M.blks M.next M.hide []=R1:=k7.symm
  have o2:=pY ((X0).hide.trans (j5).hide.symm)
  have o3:=Jd 64 [⟨3,1,M.next,a0.next⟩,⟨2,1,M.next,M.next⟩] ((X0).hide.trans (j5).hide.symm)
  have o4:=pY ((X0).hide.trans (t3).hide.symm)
  have o5:=pY ((X0).hide.trans (t4).hide.symm)
  have o6:=pY ((X0).hide.trans (t5).hide.symm)
  have o7:=Ew (L:=(a6.log++M.log)) ((X0).hide.trans (t6).hide.symm)
  have o8:(aA.mk a6.blks a6.next a6.hide (a6.log++M.log))=p2:=c6.symm
  try rw[o1] at a1
  try rw[o2] at a1
  try rw[o3] at a1
  try rw[o4] at a1
  try rw[o5] at a1
  try rw[o6] at a1
  try rw[o7] at a1
  try rw[o8] at a1
  obtain⟨T1,h1,h2⟩:=Rd.told aG aF (fun B=>lQ (gP 19 Xc (gS _))) (fun _ _=>rfl) a1 (hw (bT g5) (hk (bT g5) (hk (bT w7) (hk (dY (by omega) (by simp at g5;omega)) (hk (fF (aS X0 hld0)) (hk (lC bV g6 rfl) (hk (aJ rfl x3 w8 t8) (hk (lC bV (cB.2 ⟨dI (by simp;omega),v6⟩) rfl) (hk (mB k5) (hk (aJ rfl x4 x0 u0) (hk (aJ rfl x5 x1 u1) (hk (aJ rfl x6 x2 u2) (hk (bP (by rw[<-e5,<-i6];kernel_rfl) Nat.one_ne_zero) (hk (dA x7) (hk (eD (by rw[k4];simp<;>omega)) (hk (aJ rfl k6 k3 j7) (hk (bF cc2) (hk (aJ rfl e3 e2 d4) (hk (bF cc3) (hk (aJ rfl j0 i9 i5) (hk (bT cc4) (hk (aJ rfl J8 J0 G0) (hk (dA w2) (hk (lC nN c3 rfl) (hk (lA ⟨uL,oO⟩ u7 rfl) (hk (bP (by rw[<-b2,<-m6];kernel_rfl) Nat.one_ne_zero) (hk (kS o0 (by cases g4<;>simp)) (hk (dA w5) hn))))))))))))))))))))))))))))
  exact⟨T1,c2,b3,h1,h2,t2,h7,v5,k1,r9.less (by intro x hx;simp only [List.mem_cons,List.not_mem_nil,or_false] at hx;rcases hx with rfl|rfl<;>simp)⟩
 ·intro cc2 cc3 cc4 hld0
  obtain⟨e4,m3,a8,e3,e2,d4,a5,b8,d2⟩:=aM (x:=(md,3)) f2 jT (⟨⟨_,_,rfl,rfl,rfl⟩,rfl⟩)
  have c8:=j2.ext a5
  have d6:=a5.old j8
  have d7:=a5.old j9
  have b9:=a5.old e6
  have b7:e4=(i64 (aD md 3)):=d2
  subst b7
  have d3:=j3.trans a5
  obtain⟨j1,s7,b5,j0,i9,i5,a9,d9,i2⟩:=aM (x:=(k,31)) b8 jT (⟨⟨_,_,rfl,rfl,rfl⟩,rfl⟩)
  have i1:=c8.ext a9
  have g2:=a9.old d6
  have h3:=a9.old d7
  have g3:=a9.old b9
  have d5:j1=(i64 (aD k 31)):=i2
  subst d5
  have g9:=d3.trans a9
  obtain⟨p4,s1,e8,y2,y9,l6,z9⟩:=bE d9 ⟨[i64 (aD k N),i64 (aD (aK k 13) N),i64 (aD (aK k 170) 5),i64 (aD (aK k 900) 9)],37,4,0,true⟩
  have L6:M0.next<=p4:=(mG e8 g9:)
  have F6:=fL g2 e8
  have dr6b146:=fL h3 e8
  have db69b146:=fL g3 e8
  have k8:=i1.new e8 l6
  have c7:=l6.old g2
  have k0:=l6.old h3
  have G5:=l6.old g3
  have E1:=g9.trans l6
  obtain⟨q4,f7,f5,w2,E3,A2,k9,q8,L2⟩:=gW (P:=Try.prog) (sT:=24) (xT:=24) (y:=32) (c:=2) k8 E1 z9 (by intro x hx;simp only [List.mem_cons,List.not_mem_nil,or_false] at hx;rcases hx with rfl|rfl|rfl|rfl<;>first|exact aA.lt_of_get y9|exact aA.lt_of_get G5|exact aA.lt_of_get c7|exact aA.lt_of_get k0) (by kernel_rfl) (by kernel_rfl) (by kernel_rfl) (by kernel_rfl) (by decide) (by decide) rfl k2 y9 (o:=0) (new:= [i64 (aD k N),i64 (aD (aK k 13) N),i64 (aD (aK k 170) 5),i64 (aD (aK k 900) 9)]) rfl rfl rfl
  have h4:=q8 _ _ c7 (by simp)
  have c3:=q8 _ _ k0 (by simp)
  obtain⟨c5,K0,H0,r2,E7,h6,M3⟩:=aZ (o:=1) (v:=f7) (new:= [i64 N,f7]) E3 np A2 Qb h4 (by rw[cI k9.isCell];rfl) (by rw[cI k9.isCell];show(isCell _&&true)=true;rw[k9.isCell];rfl) (Nat.zero_le _) (Nat.le_of_ble_eq_true rfl) (by rw[cI k9.isCell];rfl)
  have C9:=k9.keep (by simp) (fun id h _=>r2 id h)
  have e7:=(r2 _ (Ne.symm j6)).trans c3
  have a1:oR Try.prog [] 100 Try.f10 (q10.loopAt 0) [(1,(aC bb o m c)),(2,(i64 md)),(6,(pt r6 0)),(7,(pt p 0)),(8,(i64 (i:Int)))] M [aP 10,aP 12,aP 15,aP 16,aP 22,aR 24 (i64 k),aR 32 (i64 N),bK 34 (i64 (aD k N)) a0,aR 42 (i64 N),bK 44 (i64 (aD (aK k 13) N)) a2,bK 50 (i64 (aD (aK k 170) 5)) a3,bK 56 (i64 (aD (aK k 900) 9)) a7,bK 60 (pt b1 0) (aA.mk a4.blks a4.next (aV 0 [⟨14,1,a3.next,a7.next⟩,⟨11,1,a2.next,a3.next⟩,⟨8,1,a0.next,a2.next⟩,⟨3,1,M.next,a0.next⟩,⟨2,1,M.next,M.next⟩]++M.hide) a4.log),jJ 62 a6,bK 66 (i64 (aD md 3)) b0,aO 69,bK 73 (i64 (aD md 3)) a8,aO 76,bK 80 (i64 (aD k 31)) b5,aO 83,aR 87 S,aR 89 (.agg ⟨[i64 (aD k N),i64 (aD (aK k 13) N),i64 (aD (aK k 170) 5),i64 (aD (aK k 900) 9)]⟩),bK 91 (aC p4 0 1 2) s1,.at 93 ((bif q4 then 1 else 2),.val f7,f5),jJ 97 c5] [1,2,6,7,8]=some (.normal,[some (aC bb o m c),some (i64 md),some (pt r6 0),some (pt p 0),some (i64 (IntKind.wrap .i64 ((i:Int)+(1:Int))))],c5,[qT (decide ((i:Int)<(m:Int))),qT (decide ((i:Int)<(m:Int))),qT (decide ((i:Int)<(m:Int))),qT (decide ((i:Int)<(40:Int))),.q (.inb (i:Int) m) (eT true),qL 3 bb (o+((i:Int):Int).toNat*1) M (i64 k),qL 3 p 0 (aA.mk M.blks M.next M.hide []) (i64 N),qC 19 [i64 k,i64 N] (aA.mk M.blks M.next M.hide []) (i64 (aD k N)) a0,qL 3 p 0 (aA.mk a0.blks a0.next (aV 64 [⟨3,1,M.next,a0.next⟩,⟨2,1,M.next,M.next⟩]++M.hide) a0.log) (i64 N),qT (Nat.blt p M.next),qC 19 [i64 (aK k 13),i64 N] (aA.mk a0.blks a0.next M.hide a0.log) (i64 (aD (aK k 13) N)) a2,qC 19 [i64 (aK k 170),i64 5] (aA.mk a2.blks a2.next M.hide a2.log) (i64 (aD (aK k 170) 5)) a3,qC 19 [i64 (aK k 900),i64 9] (aA.mk a3.blks a3.next M.hide a3.log) (i64 (aD (aK k 900) 9)) a7,.eq (cN Try.prog 37 (aA.mk a7.blks a7.next (aV 0 [⟨14,1,a3.next,a7.next⟩,⟨11,1,a2.next,a3.next⟩,⟨8,1,a0.next,a2.next⟩,⟨3,1,M.next,a0.next⟩,⟨2,1,M.next,M.next⟩]++M.hide) a7.log)) (1,.val (pt b1 0),(aA.mk a4.blks a4.next (aV 0 [⟨14,1,a3.next,a7.next⟩,⟨11,1,a2.next,a3.next⟩,⟨8,1,a0.next,a2.next⟩,⟨3,1,M.next,a0.next⟩,⟨2,1,M.next,M.next⟩]++M.hide) a4.log)),qS 37 b1 0 (.agg ⟨[i64 (aD k N),i64 (aD (aK k 13) N),i64 (aD (aK k 170) 5),i64 (aD (aK k 900) 9)]⟩) (aA.mk (aA.mk a4.blks a4.next (aV 0 [⟨14,1,a3.next,a7.next⟩,⟨11,1,a2.next,a3.next⟩,⟨8,1,a0.next,a2.next⟩,⟨3,1,M.next,a0.next⟩,⟨2,1,M.next,M.next⟩]++M.hide) a4.log).blks (aA.mk a4.blks a4.next (aV 0 [⟨14,1,a3.next,a7.next⟩,⟨11,1,a2.next,a3.next⟩,⟨8,1,a0.next,a2.next⟩,⟨3,1,M.next,a0.next⟩,⟨2,1,M.next,M.next⟩]++M.hide) a4.log).next M.hide (aA.mk a4.blks a4.next (aV 0 [⟨14,1,a3.next,a7.next⟩,⟨11,1,a2.next,a3.next⟩,⟨8,1,a0.next,a2.next⟩,⟨3,1,M.next,a0.next⟩,⟨2,1,M.next,M.next⟩]++M.hide) a4.log).log) a6,qT (cY [p] a6.log),qC 19 [i64 md,i64 3] (aA.mk a6.blks a6.next M.hide (a6.log++M.log)) (i64 (aD md 3)) b0,qF ((aD md 3)==(0:Int)),qC 19 [i64 md,i64 3] b0 (i64 (aD md 3)) a8,qF ((aD md 3)==(1:Int)),qC 19 [i64 k,i64 31] a8 (i64 (aD k 31)) b5,qF ((aD k 31)==(0:Int)),qL 24 p 1 b5 S,qL 37 b1 0 b5 (.agg ⟨[i64 (aD k N),i64 (aD (aK k 13) N),i64 (aD (aK k 170) 5),i64 (aD (aK k 900) 9)]⟩),.eq (bH Try.prog 24 1 [(0,(.agg ⟨[i64 (aD k N),i64 (aD (aK k 13) N),i64 (aD (aK k 170) 5),i64 (aD (aK k 900) 9)]⟩))] b5) (1,.val (aC p4 0 1 2),s1),.q (.append [24,24] S (aC p4 0 1 2) s1) ((bif q4 then 1 else 2),.val f7,f5),qS 24 p 1 f7 f5 c5]):=by cases q4<;>kernel_rfl
  dsimp only at a1
  have o1:aA.mk M.blks M.next M.hide []=R1:=k7.symm
  have o2:=pY ((X0).hide.trans (j5).hide.symm)
  have o3:=Jd 64 [⟨3,1,M.next,a0.next⟩,⟨2,1,M.next,M.next⟩] ((X0).hide.trans (j5).hide.symm)
  have o4:=pY ((X0).hide.trans (t3).hide.symm)
  have o5:=pY ((X0).hide.trans (t4).hide.symm)
  have o6:=pY ((X0).hide.trans (t5).hide.symm)
  have o7:=Ew (L:=(a6.log++M.log)) ((X0).hide.trans (t6).hide.symm)
  have o8:(aA.mk a6.blks a6.next a6.hide (a6.log++M.log))=p2:=c6.symm
  try rw[o1] at a1
  try rw[o2] at a1
  try rw[o3] at a1
  try rw[o4] at a1
  try rw[o5] at a1
  try rw[o6] at a1
  try rw[o7] at a1
  try rw[o8] at a1
  obtain⟨T1,h1,h2⟩:=Rd.told aG aF (fun B=>lQ (gP 19 Xc (gS _))) (fun _ _=>rfl) a1 (hw (bT g5) (hk (bT g5) (hk (bT w7) (hk (dY (by omega) (by simp at g5;omega)) (hk (fF (aS X0 hld0)) (hk (lC bV g6 rfl) (hk (aJ rfl x3 w8 t8) (hk (lC bV (cB.2 ⟨dI (by simp;omega),v6⟩) rfl) (hk (mB k5) (hk (aJ rfl x4 x0 u0) (hk (aJ rfl x5 x1 u1) (hk (aJ rfl x6 x2 u2) (hk (bP (by rw[<-e5,<-i6];kernel_rfl) Nat.one_ne_zero) (hk (dA x7) (hk (eD (by rw[k4];simp<;>omega)) (hk (aJ rfl k6 k3 j7) (hk (bF cc2) (hk (aJ rfl e3 e2 d4) (hk (bF cc3) (hk (aJ rfl j0 i9 i5) (hk (bF cc4) (hk (lC nN g2 rfl) (hk (lA ⟨uL,oO⟩ g3 rfl) (hk (bP (by rw[<-e8,<-y2];kernel_rfl) Nat.one_ne_zero) (hk (kS w2 (by cases q4<;>simp)) (hk (dA K0) hn))))))))))))))))))))))))))
  exact⟨T1,c5,f7,h1,h2,E7,h6,H0,e7,C9.less (by intro x hx;simp only [List.mem_cons,List.not_mem_nil,or_false] at hx;rcases hx with rfl|rfl<;>simp)⟩
theorem r9xa(p r6:Nat)(a:Option Addr)(m c i:Nat)(md:Int){M:aA}(a2:a.isNone=true->m=0/\c=0)(a0:(decide ((i:Int)<(m:Int)))=true)(a1:(decide ((i:Int)<(40:Int)))=false): ∃T1,Rd Try.prog [] (q10.loopAt 0) Try.f10.ntmps (fr [(1,(.slice a m c)),(2,(i64 md)),(6,(pt r6 0)),(7,(pt p 0)),(8,(i64 (i:Int)))]) M (.exit 0) T1 M/\ [6,7].map T1.get= [some (pt r6 0),some (pt p 0)]:=by
 exact Rd.told (tb:=[]) (n:=60) (F:=[aP 5,aP 10,aP 12,aP 15,aO 16]) aG aF (aI Try.prog) (fun _ _=>rfl) (by kernel_rfl) (hk (lN a2) (hw (bT a0) (hk (bT a0) (hk (bF a1) hn))))
theorem r9xb(p r6:Nat)(a:Option Addr)(m c i:Nat)(md:Int){M:aA}(a1:a.isNone=true->m=0/\c=0)(a0:(decide ((i:Int)<(m:Int)))=false): ∃T1,Rd Try.prog [] (q10.loopAt 0) Try.f10.ntmps (fr [(1,(.slice a m c)),(2,(i64 md)),(6,(pt r6 0)),(7,(pt p 0)),(8,(i64 (i:Int)))]) M (.exit 0) T1 M/\ [6,7].map T1.get= [some (pt r6 0),some (pt p 0)]:=by
 exact Rd.told (tb:=[]) (n:=60) (F:=[aP 5,aO 10,aO 12,aO 15]) aG aF (aI Try.prog) (fun _ _=>rfl) (by kernel_rfl) (hk (lN a1) (hw (bF a0) (hk (bF a0) hn)))
def MkE(M0 M:aA)(p r6:Nat)(N:Int)(l:List E4):Prop:= ∃S,M.get p=some ⟨[i64 N,S],26,2,0,true⟩/\cT 37 4 M0 [p,r6] l.length ((l.map cC).flatten) S M
theorem step9(p r6 bb o m c i:Nat)(N md k:Int){l:List E4}{M M0:aA}(hM:aB M)(X0:Ext M0 M)(np:M0.next<=p)(hE:MkE M0 M p r6 N l)(a1:M.get r6=some ⟨[i64 0,eZ],26,2,0,true⟩)(a0:p≠r6)(a2:(decide (0<N)&&decide (N<2^62))=true)(hl:l.length<1073741824)(hi:i<m)(h40:i<40)(a7:bI Try.prog 3 ⟨bb,o+((i:Int):Int).toNat*1,none⟩ M0=some (i64 k)):
  ∃T1 M',Rd Try.prog [] (q10.loopAt 0) Try.f10.ntmps (fr [(1,(aC bb o m c)),(2,(i64 md)),(6,(pt r6 0)),(7,(pt p 0)),(8,(i64 (i:Int)))]) M .normal T1 M'/\ [1,2,6,7,8].map T1.get= [some (aC bb o m c),some (i64 md),some (pt r6 0),some (pt p 0),some (i64 (IntKind.wrap .i64 ((i:Int)+(1:Int))))]/\Ext M0 M'/\aB M'/\MkE M0 M' p r6 N (l++ [oP N md k])/\M'.get r6=some ⟨[i64 0,eZ],26,2,0,true⟩:=by
 obtain⟨S,gp,hS⟩:=hE
 have hc:decide ((i:Int)<(m:Int))=true:=decide_eq_true (by omega)
 have a6:decide ((i:Int)<(40:Int))=true:=decide_eq_true (by omega)
 have a5: ∀{S':Value} {M':aA} {es:List Value},es=cC (oP N md k)->M'.get p=some ⟨[i64 N,S'],26,2,0,true⟩->cT 37 4 M0 [p,r6] (l.length+1) ((l.map cC).flatten++es) S' M'->MkE M0 M' p r6 N (l++ [oP N md k]):=fun{S' M' es} he h5 h7=>by
  subst he
  refine⟨S',h5,?_⟩
  rw[List.length_append,List.map_append,List.flatten_append]
  simpa using h7
 cases a3:(aD md 3)==(0:Int) with
 |true=>
  cases hz:(aD k 31)==(0:Int) with
  |true=>
   obtain⟨T1,M',S',h1,h2,h3,h4,h5,h6,h7⟩:=(zH p r6 bb o m c i N md k S l hM X0 np gp a1 a0 a2 hS hl hc a6).1 a3 hz a7
   exact⟨T1,M',h1,h2,h3,h4,a5 (by simp only [oP,a3,hz,cond_true,cond_false]) h5 h7,h6⟩
  |false=>
   obtain⟨T1,M',S',h1,h2,h3,h4,h5,h6,h7⟩:=(zH p r6 bb o m c i N md k S l hM X0 np gp a1 a0 a2 hS hl hc a6).2.1 a3 hz a7
   exact⟨T1,M',h1,h2,h3,h4,a5 (by simp only [oP,a3,hz,cond_true,cond_false]) h5 h7,h6⟩
 |false=>
  cases a4:(aD md 3)==(1:Int) with
  |true=>
   cases hz:(aD k 31)==(0:Int) with
   |true=>
    obtain⟨T1,M',S',h1,h2,h3,h4,h5,h6,h7⟩:=(zH p r6 bb o m c i N md k S l hM X0 np gp a1 a0 a2 hS hl hc a6).2.2.1 a3 a4 hz a7
    exact⟨T1,M',h1,h2,h3,h4,a5 (by simp only [oP,a3,a4,hz,cond_true,cond_false]) h5 h7,h6⟩
   |false=>
    obtain⟨T1,M',S',h1,h2,h3,h4,h5,h6,h7⟩:=(zH p r6 bb o m c i N md k S l hM X0 np gp a1 a0 a2 hS hl hc a6).2.2.2.1 a3 a4 hz a7
    exact⟨T1,M',h1,h2,h3,h4,a5 (by simp only [oP,a3,a4,hz,cond_true,cond_false]) h5 h7,h6⟩
  |false=>
   cases hz:(aD k 31)==(0:Int) with
   |true=>
    obtain⟨T1,M',S',h1,h2,h3,h4,h5,h6,h7⟩:=(zH p r6 bb o m c i N md k S l hM X0 np gp a1 a0 a2 hS hl hc a6).2.2.2.2.1 a3 a4 hz a7
    exact⟨T1,M',h1,h2,h3,h4,a5 (by simp only [oP,a3,a4,hz,cond_true,cond_false]) h5 h7,h6⟩
   |false=>
    obtain⟨T1,M',S',h1,h2,h3,h4,h5,h6,h7⟩:=(zH p r6 bb o m c i N md k S l hM X0 np gp a1 a0 a2 hS hl hc a6).2.2.2.2.2 a3 a4 hz a7
    exact⟨T1,M',h1,h2,h3,h4,a5 (by simp only [oP,a3,a4,hz,cond_true,cond_false]) h5 h7,h6⟩
theorem loop9{p r6:Nat}{a:Option Addr}{c:Nat}{N md:Int}{ns:List Int}{M0 M:aA}(hM:aB M)(X:Ext M0 M)(hs:aL ns (.slice a ns.length c) M0)(np:M0.next<=p)(gp:M.get p=some ⟨[i64 N,eZ],26,2,0,true⟩)(a1:M.get r6=some ⟨[i64 0,eZ],26,2,0,true⟩)(a0:p≠r6)(a2:(decide (0<N)&&decide (N<2^62))=true):
  ∃M',bN Try.prog [] (q10.loopAt 0) Try.f10.ntmps (fr [(1,.slice a ns.length c),(2,i64 md),(6,pt r6 0),(7,pt p 0),(8,i64 ((0:Nat):Int))]) M (.exit 0) (fr [(6,pt r6 0),(7,pt p 0)]) M'/\Ext M0 M'/\aB M'/\M'.get r6=some ⟨[i64 0,eZ],26,2,0,true⟩/\MkE M0 M' p r6 N ((ns.take 40).map (oP N md)):=by
 have hlen:=hs.len
 obtain⟨_,M',h1,h2,h3,h4,h5⟩:=bN.for (P:=Try.prog) (GL:= []) (b:=q10.loopAt 0) (nt:=Try.f10.ntmps) (id:=0) (σ:=Unit) (n:=(ns.take 40).length) (Inv:=fun i _ M1=>Ext M0 M1/\aB M1/\M1.get r6=some ⟨[i64 0,eZ],26,2,0,true⟩/\MkE M0 M1 p r6 N ((ns.take i).map (oP N md)))
  (F:=fun i _=> [(1,.slice a ns.length c),(2,i64 md),(6,pt r6 0),(7,pt p 0),(8,i64 ((i:Nat):Int))])
  (O:=fun _=> [(6,pt r6 0),(7,pt p 0)])
  (by
   rintro i _ M1 hi ⟨X1,a3,a4,hE⟩
   rw[List.length_take] at hi
   obtain⟨bb,o,rfl,_⟩:=cF hs (by omega)
   have ht:ns[i]?=some ns[i]:=List.getElem?_eq_getElem (by omega)
   obtain⟨T1,M2,h1,h2,h3,h4,h5,h6⟩:=step9 p r6 bb o ns.length c i N md ns[i] a3 X1 np hE a4 a0 a2 (by simp;omega) (by omega) (by omega) (kM (P:=Try.prog) (ty:=3) hs ht rfl bV)
   rw[aX (by omega)] at h2
   refine⟨(),T1,M2,h1,h2,h3,h4,h6,?_⟩
   rw[List.take_succ_eq_append_getElem (by omega),List.map_append]
   exact h5)
  (by
   rintro _ M1 ⟨X1,a3,a4,hE⟩
   by_cases h:ns.length<=40
   ·rw[List.take_of_length_le h]
    exact r9xb p r6 a ns.length c ns.length md hs.ln (decide_eq_false (by omega))
   ·rw[List.length_take,Nat.min_eq_left (by omega)]
    exact r9xa p r6 a ns.length c 40 md hs.ln (decide_eq_true (by omega)) (decide_eq_false (by omega)))
  (ns.take 40).length 0 (by omega) (s:=()) (M:=M) ⟨X,hM,a1,eZ,gp,.inl ⟨rfl,rfl,rfl⟩⟩
 refine⟨M',h1,h2,h3,h4,?_⟩
 rw[List.length_take,<-List.take_take,List.take_length] at h5
 exact h5
theorem rK10:Try.f10.results= #[.cell 6 26]:=by kernel_rfl
theorem Wd{M0 M M':aA}{S:Value}{l:List E4}{p r6:Nat}(h:cT 37 4 M0 [p,r6] l.length ((l.map cC).flatten) S M)(hk: ∀id,id≠r6->M'.get id=M.get id)(hl:l.length<=9223372036854775807):aU l S (hid M0.next M'):=by
 rcases h with⟨rfl,h0,_⟩|⟨b,rfl,_,_,h3,h5,h6⟩
 ·rw[List.eq_nil_of_length_eq_zero h0];exact aH.nil none
 ·exact aH.of_blk' (jV h3 ((hk b (fun e=>h5 (by simp [e]))).trans h6)) rfl rfl (fun _ _=>rfl) hl
theorem w9(size:Int)(b0:Option Addr)(b2:Nat)(ns:List Int)(md:Int){M:aA}(hM:aB M)(e5:aL ns (.slice b0 ns.length b2) M): ∃v_ M',Ev Try.prog [] 10 [i64 size,.slice b0 ns.length b2,i64 md] M v_ M'/\Ext M M'/\aB M'/\iQ nT (kN size,wL size ns md) M.next v_ M':=by
 obtain⟨b1,M2,c9,d7,g5,E6,e3⟩:=bE hM ⟨[i64 0,eZ],26,2,0,true⟩
 have e7:M.next<=b1:=by rw[<-c9];exact(Ext.refl M).next
 have X9:=(Ext.refl M).trans E6
 obtain⟨f2,f4,a6,f0,e6,d6,c6,b8,d1⟩:=aM (x:=(size,12)) e3 jT (⟨⟨_,_,rfl,rfl,rfl⟩,rfl⟩)
 have d0:=c6.old g5
 have b4:f2=(i64 (aD size 12)):=d1
 subst b4
 have c8:=X9.trans c6
 obtain⟨a2,a7,a3,b3,d8,c7,b9⟩:=bE b8 ⟨[i64 0,eZ],26,2,0,true⟩
 have a4:=mG a3 c8
 have a0:=fL d0 a3
 have d9:=c7.old d0
 have d2:=c8.trans c7
 obtain⟨a8,f1,e0,c3,d3,c0,e8⟩:=aZ (o:=0) (v:=(.agg ⟨[i64 (IntKind.wrap .i64 ((1:Int)+(aD size 12))),eZ]⟩)) (new:= [i64 (IntKind.wrap .i64 ((1:Int)+(aD size 12))),eZ]) d2 a4 b9 vO d8 rfl rfl (Nat.zero_le _) (Nat.le_of_ble_eq_true rfl) rfl
 have e1:=(c3 _ a0).trans d9
 obtain⟨a5,b7,d4,c1,b5,a1,b6,c5⟩:=loop9 (md:=md) c0 d3 e5 a4 (N:=(kN size:Int)) (by rw[<-Zx];exact e0) e1 (Ne.symm a0) (by have:=mP size;simp only [Bool.and_eq_true,decide_eq_true_eq];omega)
 have e4:isCell a1=true:=cT.isCell c5
 obtain⟨a9,q49,e2,c4,d5,c2,e9⟩:=aZ (o:=0) (v:=(.agg ⟨[i64 (kN size:Int),a1]⟩)) (new:= [i64 (kN size:Int),a1]) d4 e7 c1 vO b5 rfl (by show(isCell (i64 _)&&(isCell a1&&true))=true;rw[e4];rfl) (Nat.zero_le _) (Nat.le_of_ble_eq_true rfl) rfl
 exact⟨.agg ⟨[i64 (kN size:Int),a1]⟩,a9,Ev.told_cell (tb:=[0]) (n:=60) (F:=[bK 1 (pt b1 0) M2,bK 5 (i64 (aD size 12)) a6,bK 11 (pt a2 0) a7,jJ 13 a8,.blk 16 [1,2,6,7,8] .normal (fr [(6,(pt b1 0)),(7,(pt a2 0))]) a5,aR 18 (.agg ⟨[i64 (kN size:Int),a1]⟩),jJ 20 a9]) aG aF Try.func10 aAf (by kernel_rfl) rK10 (fun B=>zJ (gP 19 Xc (gS _)) 0 b7) (fun _ h=>cD h) (by kernel_rfl) (mM (a:=⟨b1,0,none⟩) Aw vO e2 rfl) (hq (.eq (cN Try.prog 26 M) (1,.val (pt b1 0),M2)) (bP (by rw[<-c9,<-d7];kernel_rfl) Nat.one_ne_zero) (hq (qC 19 [i64 size,i64 12] M2 (i64 (aD size 12)) a6) (aJ rfl f0 e6 d6) (hq (.eq (cN Try.prog 26 a6) (1,.val (pt a2 0),a7)) (bP (by rw[<-a3,<-b3];kernel_rfl) Nat.one_ne_zero) (hq (qS 26 a2 0 (.agg ⟨[i64 (IntKind.wrap .i64 ((1:Int)+(aD size 12))),eZ]⟩) a7 a8) (dA f1) (hq (.blk 0 (.loop (q10.loopAt 0)) Try.f10.ntmps [1,2,6,7,8] [some (.slice b0 ns.length b2),some (i64 md),some (pt b1 0),some (pt a2 0),some (i64 0)] a8 .normal (fr [(6,(pt b1 0)),(7,(pt a2 0))]) a5) (fP rfl) (hq (qL 26 a2 0 a5 (.agg ⟨[i64 (kN size:Int),a1]⟩)) (lA ⟨Aw,vO⟩ b6 rfl) (hq (qS 26 b1 0 (.agg ⟨[i64 (kN size:Int),a1]⟩) a5 a9) (dA q49) hn))))))),d5,c2,⟨_,rfl,Wd c5 c4 (Nat.le_trans (by rw[List.length_map,List.length_take];exact Nat.min_le_left _ _:(List.map (oP (kN size:Int) md) (ns.take 40)).length<=40) (by decide))⟩⟩
abbrev Q10:=FC (Ve pI aL pI) (iQ nT) (fun x=>(kN x.1,wL x.1 x.2.1 x.2.2))
theorem con10{x:Int×List Int×Int}{lv:List Value}{M:aA}(hM:aB M)(h:(Ve pI aL pI) x lv M): ∃v M',lM Try.prog [] 10 Q10 lv M v M':=by
 refine FC.con h ?_
 obtain⟨g0,g1,g2,rfl,k0,k1,k2⟩:=h
 obtain⟨size,ns,md⟩:=x
 obtain rfl:=k0
 obtain rfl:=k2
 obtain⟨a,c,rfl⟩:=aH.form k1
 obtain⟨v,M',h1,h2,_,h3⟩:=w9 size a c ns md hM k1
 exact⟨v,M',h1,h2,h3⟩
end Go.Proofs.Ytdaglldahidmbaa
