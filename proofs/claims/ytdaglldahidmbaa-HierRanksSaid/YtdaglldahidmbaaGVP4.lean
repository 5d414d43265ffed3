/-
  Package hier: each of its laws for every argument; no conditions. The last text states which.
-/
import Derived.Test.YtdaglldahidmbaaGVP1
import Derived.Test.YtdaglldahidmbaaGAmBk
set_option linter.unusedVariables false
set_option linter.unusedSimpArgs false
open Go Go.Am Go.Proofs
namespace Go.Proofs.Ytdaglldahidmbaa
set_option maxRecDepth 100000
theorem hI:(Try.prog.underlying 22).map dX=some false:=by kernel_rfl
theorem Lb:(Try.prog.info? 22).map (·.size)=some 1:=by kernel_rfl
theorem rA45(C n bb o m c i:Nat)(x z:Int)(cc:List Value){M M0:aA}(hM:aB M)(X0:Ext M0 M)(hC:M0.next<=C)(gC:M.get C=some ⟨cc,3,1,0,true⟩)(cc0:(decide ((i:Int)<(m:Int)))=true)(hld0:aX Try.prog 3 ⟨bb,o+((i:Int):Int).toNat*1,none⟩ M0=some (i64 x))(hi1:0<=(x:Int)/\(x:Int)<n)(hc2:(cc)[0+(x:Int).toNat*1]?=some (i64 z))(hof3:0+(x:Int).toNat*1+1<=(cc).length): ∃T1 M',Rd Try.prog [] (q96.loopAt 0) Try.f96.ntmps (fr [(0,(i64 (n:Int))),(1,(aD bb o m c)),(5,(aD C 0 n (n+1))),(15,(aD bb o m c)),(16,(i64 (m:Int))),(17,(i64 (i:Int)))]) M .normal T1 M'/\ [0,1,5,15,16,17].map T1.get= [some (i64 (n:Int)),some (aD bb o m c),some (aD C 0 n (n+1)),some (aD bb o m c),some (i64 (m:Int)),some (i64 (IntKind.wrap .i64 ((i:Int)+(1:Int))))]/\Ext M0 M'/\aB M'/\M'.get C=some ⟨splice cc (0+(x:Int).toNat*1) [i64 (IntKind.wrap .i64 (z+(1:Int)))],3,1,0,true⟩/\ ∀id k,M.get id=some k->id≠C->M'.get id=some k:=by
 obtain⟨M1,q2,g3,a1,X5,a0,a2⟩:=bH (o:=0+(x:Int).toNat*1) (v:=(i64 (IntKind.wrap .i64 (z+(1:Int))))) (new:=splice cc (0+(x:Int).toNat*1) [i64 (IntKind.wrap .i64 (z+(1:Int)))]) X0 hC hM He gC rfl rfl (Nat.zero_le _) hof3 rfl
 replace g3:M1.get C=some ⟨splice cc (0+(x:Int).toNat*1) [i64 (IntKind.wrap .i64 (z+(1:Int)))],3,1,0,true⟩:=g3
 have hkp: ∀id k,M.get id=some k->id≠C->M1.get id=some k:=fun id k g h_C=>by
  have g:=((fun id h _=>a1 id h) id h_C (aA.lt_of_get g)).trans g
  exact g
 obtain⟨T1,h1,h2⟩:=Rd.told (tb:=[]) (n:=60) (F:=[aM 2,aM 4,aU 6 (i64 x),aM 14,aU 16 (i64 z),aM 20,lP 22 M1]) aJ aI (aG Try.prog) (fun _ _=>rfl) (by kernel_rfl) (hk (bT cc0) (hk (qI (i:Int) m (by omega) (by simp at cc0;omega)) (hk (lD (aE X0 hld0)) (hk (qI x n hi1.1 hi1.2) (hq (qL 3 C (0+(x:Int).toNat*1) M (i64 z)) (iP (bW (a:=⟨C,0+(x:Int).toNat*1,none⟩) cO gC hc2)) (hk (qI x n hi1.1 hi1.2) (hq (qS 3 C (0+(x:Int).toNat*1) (i64 (IntKind.wrap .i64 (z+(1:Int)))) M M1) (eF q2) hn)))))))
 exact⟨T1,M1,h1,h2,X5,a0,g3,hkp⟩
theorem rA45x(C n:Nat)(a:Option Addr)(m c i:Nat){M:aA}(cc0:(decide ((i:Int)<(m:Int)))=false): ∃T1,Rd Try.prog [] (q96.loopAt 0) Try.f96.ntmps (fr [(0,(i64 (n:Int))),(1,(.slice a m c)),(5,(aD C 0 n (n+1))),(15,(.slice a m c)),(16,(i64 (m:Int))),(17,(i64 (i:Int)))]) M (.exit 0) T1 M/\ [0,1,5].map T1.get= [some (i64 (n:Int)),some (.slice a m c),some (aD C 0 n (n+1))]:=by
 exact Rd.told (tb:=[]) (n:=60) (F:=[aO 2]) aJ aI (aG Try.prog) (fun _ _=>rfl) (by kernel_rfl) (hk (bF cc0) hn)
theorem rB45(C D E n k q z i:Nat)(cc cd ce:List Value){M M0:aA}(hM:aB M)(X0:Ext M0 M)(hE:M0.next<=E)(gC:M.get C=some ⟨cc,3,1,0,true⟩)(gD:M.get D=some ⟨cd,3,1,0,true⟩)(gE:M.get E=some ⟨ce,22,1,0,true⟩)(dCE:C≠E)(dDE:D≠E)(cc0:(decide ((i:Int)<(n:Int)))=true)(hc0:(cc)[0+((i:Int):Int).toNat*1]?=some (i64 (z:Int)))(hs1:q<=(q+z)/\(q+z)<=k)(he2:(IntKind.wrap .i64 ((q:Int)+(z:Int)))=(((q+z):Nat):Int))(hof3:0+((i:Int):Int).toNat*1+1<=(ce).length): ∃T1 M',Rd Try.prog [] (q96.loopAt 2) Try.f96.ntmps (fr [(8,(aD D 0 k (k+1))),(9,(aD E 0 n (n+1))),(10,(i64 (q:Int))),(33,(aD C 0 n (n+1))),(34,(i64 (n:Int))),(35,(i64 (i:Int)))]) M .normal T1 M'/\ [8,9,10,33,34,35].map T1.get= [some (aD D 0 k (k+1)),some (aD E 0 n (n+1)),some (i64 (IntKind.wrap .i64 ((q:Int)+(z:Int)))),some (aD C 0 n (n+1)),some (i64 (n:Int)),some (i64 (IntKind.wrap .i64 ((i:Int)+(1:Int))))]/\Ext M0 M'/\aB M'/\M'.get C=some ⟨cc,3,1,0,true⟩/\M'.get D=some ⟨cd,3,1,0,true⟩/\M'.get E=some ⟨splice ce (0+((i:Int):Int).toNat*1) [aD D (0+q) 0 ((q+z)-q+1)],22,1,0,true⟩/\ ∀id k,M.get id=some k->id≠C->id≠D->id≠E->M'.get id=some k:=by
 obtain⟨M1,q2,g3,a0,X5,a1,a2⟩:=bH (o:=0+((i:Int):Int).toNat*1) (v:=(aD D (0+q) 0 ((q+z)-q+1))) (new:=splice ce (0+((i:Int):Int).toNat*1) [aD D (0+q) 0 ((q+z)-q+1)]) X0 hE hM Lb gE rfl rfl (Nat.zero_le _) hof3 rfl
 replace g3:M1.get E=some ⟨splice ce (0+((i:Int):Int).toNat*1) [aD D (0+q) 0 ((q+z)-q+1)],22,1,0,true⟩:=g3
 have g8:=(a0 _ dCE).trans gC
 have g9:=(a0 _ dDE).trans gD
 have hkp: ∀id k,M.get id=some k->id≠C->id≠D->id≠E->M1.get id=some k:=fun id k g h_C h_D h_E=>by
  have g:=((fun id h _=>a0 id h) id h_E (aA.lt_of_get g)).trans g
  exact g
 obtain⟨T1,h1,h2⟩:=Rd.told (tb:=[]) (n:=60) (F:=[aM 2,aM 6,aU 8 (i64 (z:Int)),aU 30 (aD D (0+q) 0 ((q+z)-q+1)),aM 32,lP 34 M1]) aJ aI (aG Try.prog) (fun _ _=>rfl) (by kernel_rfl) (hk (bT cc0) (hk (qI (i:Int) n (by omega) (by simp at cc0;omega)) (hq (qL 3 C (0+((i:Int):Int).toNat*1) M (i64 (z:Int))) (iP (bW (a:=⟨C,0+((i:Int):Int).toNat*1,none⟩) cO gC hc0)) (hq (.q (.slice 22 (aD D 0 k (k+1)) (some (i64 (q:Int))) (some (i64 (q:Int))) (some (i64 (IntKind.wrap .i64 ((q:Int)+(z:Int))))) M) (1,.val (aD D (0+q) 0 ((q+z)-q+1)),Je)) (⟨_,rfl,(by rw[he2];exact Ju (by kernel_rfl) (elem:=3) (by kernel_rfl) gD rfl hs1.1 hs1.2)⟩) (hk (qI (i:Int) n (by omega) (by simp at cc0;omega)) (hq (qS 22 E (0+((i:Int):Int).toNat*1) (aD D (0+q) 0 ((q+z)-q+1)) M M1) (eF q2) hn))))))
 exact⟨T1,M1,h1,h2,X5,a1,g8,g9,g3,hkp⟩
theorem rB45x(C D E n k q i:Nat){M:aA}(cc0:(decide ((i:Int)<(n:Int)))=false): ∃T1,Rd Try.prog [] (q96.loopAt 2) Try.f96.ntmps (fr [(8,(aD D 0 k (k+1))),(9,(aD E 0 n (n+1))),(10,(i64 (q:Int))),(33,(aD C 0 n (n+1))),(34,(i64 (n:Int))),(35,(i64 (i:Int)))]) M (.exit 2) T1 M/\ [9].map T1.get= [some (aD E 0 n (n+1))]:=by
 exact Rd.told (tb:=[]) (n:=60) (F:=[aO 2]) aJ aI (aG Try.prog) (fun _ _=>rfl) (by kernel_rfl) (hk (bF cc0) hn)
theorem Sv{a:Option Addr}{c C n:Nat}{ends:List Int}{M0 M:aA}(hM:aB M)(X:Ext M0 M)(hs:aP ends (.slice a ends.length c) M0)(hb: ∀x∈ends,0<=x/\x<(n:Int))(hl:ends.length<=400)(hC:M0.next<=C)(gC:M.get C=some ⟨List.replicate n (i64 0),3,1,0,true⟩):
  ∃M',bJ Try.prog [] (q96.loopAt 0) Try.f96.ntmps (fr [(0,i64 n),(1,.slice a ends.length c),(5,aD C 0 n (n+1)),(15,.slice a ends.length c),(16,i64 ends.length),(17,i64 ((0:Nat):Int))]) M (.exit 0) (fr [(0,i64 n),(1,.slice a ends.length c),(5,aD C 0 n (n+1))]) M'/\Ext M0 M'/\aB M'/\M'.get C=some ⟨gM (eG ends) ends.length n,3,1,0,true⟩:=by
 obtain⟨_,M',h1,h2,h3,h4⟩:=bJ.for (P:=Try.prog) (GL:= []) (b:=q96.loopAt 0) (nt:=Try.f96.ntmps) (id:=0) (σ:=Unit) (n:=ends.length) (Inv:=fun i _ M1=>Ext M0 M1/\aB M1/\M1.get C=some ⟨gM (eG ends) i n,3,1,0,true⟩)
  (F:=fun i _=> [(0,i64 n),(1,.slice a ends.length c),(5,aD C 0 n (n+1)),(15,.slice a ends.length c),(16,i64 ends.length),(17,i64 ((i:Nat):Int))])
  (O:=fun _=> [(0,i64 n),(1,.slice a ends.length c),(5,aD C 0 n (n+1))])
  (by
   rintro i _ M1 hi ⟨X1,a0,a1⟩
   obtain⟨bb,o,rfl,_⟩:=cD hs (by omega)
   have ht:ends[i]?=some ends[i]:=List.getElem?_eq_getElem hi
   have hk:=zT hb hi
   have hbi:=hb _ (List.getElem_mem hi)
   have e0:0+(ends[i]:Int).toNat*1=eG ends i:=by rw[zS hi];omega
   obtain⟨T1,M2,h1,h2,h3,h4,h5,_⟩:=rA45 C n bb o ends.length c i ends[i] ((iH (eG ends) i (eG ends i):Nat):Int) _ a0 X1 hC a1 (decide_eq_true (by omega)) (iC (P:=Try.prog) (ty:=3) hs ht rfl cO) hbi (by rw[e0];exact iI _ _ hk) (by rw[e0,iJ];omega)
   rw[aY (by omega)] at h2
   have hc:=Aq (eG ends) i (eG ends i)
   rw[e0,aY (by omega),tQ _ hk] at h5
   exact⟨(),T1,M2,h1,h2,h3,h4,h5⟩)
  (by
   rintro _ M1 ⟨X1,a0,a1⟩
   exact rA45x C n a ends.length c ends.length (M:=M1) (decide_eq_false (by omega)))
  ends.length 0 (by omega) (s:=()) (M:=M) ⟨X,hM,by rw[tR];exact gC⟩
 exact⟨M',h1,h2,h3,h4⟩
theorem Sw{C D E n:Nat}{ends:List Int}{M0 M:aA}(hM:aB M)(X:Ext M0 M)(hb: ∀x∈ends,0<=x/\x<(n:Int))(hl:ends.length<=400)(hn:n<=60)(hE:M0.next<=E)(gC:M.get C=some ⟨gM (eG ends) ends.length n,3,1,0,true⟩)(gD:M.get D=some ⟨List.replicate ends.length (i64 0),3,1,0,true⟩)(gE:M.get E=some ⟨List.replicate n cI,22,1,0,true⟩)(dCE:C≠E)(dDE:D≠E):
  ∃M',bJ Try.prog [] (q96.loopAt 2) Try.f96.ntmps (fr [(8,aD D 0 ends.length (ends.length+1)),(9,aD E 0 n (n+1)),(10,i64 ((0:Nat):Int)),(33,aD C 0 n (n+1)),(34,i64 n),(35,i64 ((0:Nat):Int))]) M (.exit 2) (fr [(9,aD E 0 n (n+1))]) M'/\Ext M0 M'/\aB M'/\M'.get D=some ⟨List.replicate ends.length (i64 0),3,1,0,true⟩/\M'.get E=some ⟨dG D (iH (eG ends) ends.length) (fun _=>0) n,22,1,0,true⟩:=by
 have hall:=sG (eG ends) n ends.length fun j hj=>zT hb hj
 have hxl:=fO D (iH (eG ends) ends.length) (fun _=>0) n
 obtain⟨_,M',h1,h2,h3,h4,h5,h6⟩:=bJ.for (P:=Try.prog) (GL:= []) (b:=q96.loopAt 2) (nt:=Try.f96.ntmps) (id:=2) (σ:=Unit) (n:=n) (Inv:=fun i _ M1=>Ext M0 M1/\aB M1/\M1.get C=some ⟨gM (eG ends) ends.length n,3,1,0,true⟩/\M1.get D=some ⟨List.replicate ends.length (i64 0),3,1,0,true⟩/\M1.get E=some ⟨rI (dG D (iH (eG ends) ends.length) (fun _=>0) n) i cI,22,1,0,true⟩)
  (F:=fun i _=> [(8,aD D 0 ends.length (ends.length+1)),(9,aD E 0 n (n+1)),(10,i64 ((dN (iH (eG ends) ends.length) i:Nat):Int)),(33,aD C 0 n (n+1)),(34,i64 n),(35,i64 ((i:Nat):Int))])
  (O:=fun _=> [(9,aD E 0 n (n+1))])
  (by
   rintro i _ M1 hi ⟨X1,a0,a1,a2,a3⟩
   have hnx:=nM (iH (eG ends) ends.length) hi
   have e0:0+((i:Int):Int).toNat*1=i:=by simp
   have ew:=wU (i:=dN (iH (eG ends) ends.length) i) (j:=iH (eG ends) ends.length i) (by omega)
   obtain⟨T1,M2,h1,h2,h3,h4,h5,h6,h7,_⟩:=rB45 C D E n ends.length (dN (iH (eG ends) ends.length) i) (iH (eG ends) ends.length i) i _ _ _ a0 X1 hE a1 a2 a3 dCE dDE (decide_eq_true (by omega)) (by rw[e0];exact iI _ _ hi) ⟨by omega,by omega⟩ ew (by rw[e0,sU _ _ (by omega)];omega)
   rw[aY (by omega),ew] at h2
   have hst:=uR (z:=cI) (gP D (iH (eG ends) ends.length) (fun _=>0) hi)
   simp only [yO] at hst
   rw[e0,Nat.zero_add,Nat.add_sub_cancel_left,hst] at h7
   exact⟨(),T1,M2,h1,h2,h3,h4,h5,h6,h7⟩)
  (by
   rintro _ M1 ⟨X1,a0,_⟩
   exact rB45x C D E n ends.length _ n (M:=M1) (decide_eq_false (by omega)))
  n 0 (by omega) (s:=()) (M:=M) ⟨X,hM,gC,gD,by rw[uS,hxl];exact gE⟩
 refine⟨M',h1,h2,h3,h5,?_⟩
 have:=xJ (dG D (iH (eG ends) ends.length) (fun _=>0) n) cI
 rw[hxl] at this
 rw[this] at h6
 exact h6
theorem rK96:Try.f96.results= #[.tmp 4]:=by kernel_rfl
theorem w45(n:Nat)(aends:Option Addr)(cends:Nat)(ends:List Int){M:aA}(hM:aB M)(hends:aP ends (.slice aends ends.length cends) M)(hcond:ends.length<=400/\n<=60/\ ∀x∈ends,0<=x/\x<(n:Int)): ∃v M',Ev Try.prog [] 96 [i64 n,.slice aends ends.length cends] M v M'/\Ext M M'/\aB M'/\Qw (n,ends) M.next v M':=by
 obtain⟨b1,M2,c6,c7,g5,E6,d4⟩:=yW (P:=Try.prog) (t:=22) (elem:=3) (z:=(i64 0)) (n:=n) hM (by kernel_rfl) (by kernel_rfl) (by have:=hcond.1;have:=hcond.2.1;omega)
 have d5:M.next<=b1:=by rw[<-c6];exact(Ext.refl M).next
 have X8:=(Ext.refl M).trans E6
 obtain⟨M9,b2,c0,b4,c8⟩:=Sv d4 X8 hends hcond.2.2 hcond.1 d5 g5
 obtain⟨a1,a4,a7,a9,c2,b9,b5⟩:=yW (P:=Try.prog) (t:=22) (elem:=3) (z:=(i64 0)) (n:=ends.length) b4 (by kernel_rfl) (by kernel_rfl) (by have:=hcond.1;have:=hcond.2.1;omega)
 have b8:M.next<=a1:=by rw[<-a7];exact c0.next
 have c3:=b9.old c8
 have c1:=c0.trans b9
 obtain⟨a0,a5,a8,b0,c9,a3,b6⟩:=yW (P:=Try.prog) (t:=29) (elem:=22) (z:=cI) (n:=n) b5 (by kernel_rfl) (by kernel_rfl) (by have:=hcond.1;have:=hcond.2.1;omega)
 have a2:M.next<=a0:=by rw[<-a8];exact c1.next
 have db1b24:b1≠a0:=by have:=aA.lt_of_get c3;omega
 have db15b24:a1≠a0:=by have:=aA.lt_of_get c2;omega
 have d0:=a3.old c3
 have d1:=a3.old c2
 have c4:=c1.trans a3
 obtain⟨a6,b3,c5,b7,d2,d3⟩:=Sw b6 c4 hcond.2.2 hcond.1 hcond.2.1 a2 d0 d1 c9 db1b24 db15b24
 exact⟨aD a0 0 n (n+1),a6,Ev.told_tmp (tb:=[0,2]) (n:=60) (F:=[bL 5 (aD b1 0 n (n+1)) M2,aM 11,.blk 14 [0,1,5,15,16,17] .normal (fr [(0,(i64 (n:Int))),(1,(.slice aends ends.length cends)),(5,(aD b1 0 n (n+1)))]) M9,aM 18,bL 20 (aD a1 0 ends.length (ends.length+1)) a4,bL 26 (aD a0 0 n (n+1)) a5,.blk 37 [8,9,10,33,34,35] .normal (fr [(9,(aD a0 0 n (n+1)))]) a6]) aJ aI Try.func96 Yi (by kernel_rfl) rK96 (fun B=>sb2 (gQ B) 0 b2 2 b3) (fun _ h=>sQ h) (by kernel_rfl) (hq (.eq (cB Try.prog 22 (i64 (n:Int)) (i64 (n:Int)) M) (1,.val (aD b1 0 n (n+1)),M2)) (bZ c7 Nat.one_ne_zero) (hk (lN hends.ln) (hq (.blk 0 (.loop (q96.loopAt 0)) Try.f96.ntmps [0,1,5,15,16,17] [some (i64 (n:Int)),some (.slice aends ends.length cends),some (aD b1 0 n (n+1)),some (.slice aends ends.length cends),some (i64 (ends.length:Int)),some (i64 0)] M2 .normal (fr [(0,(i64 (n:Int))),(1,(.slice aends ends.length cends)),(5,(aD b1 0 n (n+1)))]) M9) (fH rfl) (hk (lN hends.ln) (hq (.eq (cB Try.prog 22 (i64 (ends.length:Int)) (i64 (ends.length:Int)) M9) (1,.val (aD a1 0 ends.length (ends.length+1)),a4)) (bZ a9 Nat.one_ne_zero) (hq (.eq (cB Try.prog 29 (i64 (n:Int)) (i64 (n:Int)) a4) (1,.val (aD a0 0 n (n+1)),a5)) (bZ b0 Nat.one_ne_zero) (hq (.blk 2 (.loop (q96.loopAt 2)) Try.f96.ntmps [8,9,10,33,34,35] [some (aD a1 0 ends.length (ends.length+1)),some (aD a0 0 n (n+1)),some (i64 0),some (aD b1 0 n (n+1)),some (i64 (n:Int)),some (i64 0)] a5 .normal (fr [(9,(aD a0 0 n (n+1)))]) a6) (fH rfl) hn))))))),c5,b7,⟨a0,a1,rfl,a2,b8,db15b24,d3,d2⟩⟩
abbrev Q96:=FC (iG (mG pN aP) fun x:Nat×List Int=>x.2.length<=400/\x.1<=60/\ ∀z∈x.2,0<=z/\z<(x.1:Int)) Qw id
theorem aAp{x:Nat×List Int}{lv:List Value}{M:aA}(hM:aB M)(h:(iG (mG pN aP) fun x:Nat×List Int=>x.2.length<=400/\x.1<=60/\ ∀z∈x.2,0<=z/\z<(x.1:Int)) x lv M): ∃v M',lQ Try.prog [] 96 Q96 lv M v M':=by
 refine FC.con h ?_
 obtain⟨⟨g0,g1,rfl,rfl,k1⟩,hcond⟩:=h
 obtain⟨n,ends⟩:=x
 obtain⟨a,c,rfl⟩:=aK.form k1
 obtain⟨v,M',h1,h2,_,h3⟩:=w45 n a c ends hM k1 hcond
 exact⟨v,M',h1,h2,h3⟩
theorem r36(D E n bb o m c i p q w:Nat)(x:Int)(cd ce:List Value){M M0:aA}(hM:aB M)(X0:Ext M0 M)(hD:M0.next<=D)(hE:M0.next<=E)(gD:M.get D=some ⟨cd,3,1,0,true⟩)(gE:M.get E=some ⟨ce,22,1,0,true⟩)(dDE:D≠E)(cc0:(decide ((i:Int)<(m:Int)))=true)(hld0:aX Try.prog 3 ⟨bb,o+((i:Int):Int).toNat*1,none⟩ M0=some (i64 x))(hi1:0<=(x:Int)/\(x:Int)<n)(hc2:(ce)[0+(x:Int).toNat*1]?=some (aD D p q w))(hr3:q+1<w/\p+(q+1)*1<=(cd).length/\q<1073741824)(hof4:0+(x:Int).toNat*1+1<=(ce).length): ∃T1 M',Rd Try.prog [] (q87.loopAt 0) Try.f87.ntmps (fr [(5,(aD E 0 n (n+1))),(11,(aD bb o m c)),(12,(i64 (m:Int))),(13,(i64 (i:Int)))]) M .normal T1 M'/\ [5,11,12,13].map T1.get= [some (aD E 0 n (n+1)),some (aD bb o m c),some (i64 (m:Int)),some (i64 (IntKind.wrap .i64 ((i:Int)+(1:Int))))]/\Ext M0 M'/\aB M'/\M'.get D=some ⟨splice cd (p+q*1) [i64 (i:Int)],3,1,0,true⟩/\M'.get E=some ⟨splice ce (0+(x:Int).toNat*1) [aD D p (q+1) w],22,1,0,true⟩/\ ∀id k,M.get id=some k->id≠D->id≠E->M'.get id=some k:=by
 obtain⟨b1,M2,b2,b3,g5,E6,b6⟩:=bG hM ⟨[i64 (i:Int)],3,1,0,true⟩
 have g8:=E6.old gD
 have g9:=E6.old gE
 have a8:=X0.trans E6
 obtain⟨a3,b9,a4,a1,a9,a6,b7⟩:=yH (P:=Try.prog) (sT:=22) (xT:=22) (elem:=3) (w:=1) (y:=8) (cx:=2) a8 hD b6 (by kernel_rfl) (by kernel_rfl) (by kernel_rfl) (by decide) (by decide) hr3.2.2 g5 (ox:=0) (new:= [i64 (i:Int)]) rfl rfl rfl g8 (Cv (n:=q*1) (k:=p) (l:=cd) (by have:=hr3.2.1;omega)) rfl rfl (Nat.zero_le _) hr3.1 hr3.2.1
 replace a4:a3.get D=some ⟨splice cd (p+q*1) [i64 (i:Int)],3,1,0,true⟩:=a4
 have b4:=(a1 _ (Ne.symm dDE)).trans g9
 obtain⟨a0,q22,a5,a2,b0,a7,b8⟩:=bH (o:=0+(x:Int).toNat*1) (v:=(aD D p (q+1) w)) (new:=splice ce (0+(x:Int).toNat*1) [aD D p (q+1) w]) a9 hE a6 Lb b4 rfl rfl (Nat.zero_le _) hof4 rfl
 replace a5:a0.get E=some ⟨splice ce (0+(x:Int).toNat*1) [aD D p (q+1) w],22,1,0,true⟩:=a5
 have b5:=(a2 _ dDE).trans a4
 have hkp: ∀id k,M.get id=some k->id≠D->id≠E->a0.get id=some k:=fun id k g h_D h_E=>by
  have g:=E6.old g
  have g:=((fun id h _=>a1 id h) id h_D (aA.lt_of_get g)).trans g
  have g:=((fun id h _=>a2 id h) id h_E (aA.lt_of_get g)).trans g
  exact g
 obtain⟨T1,h1,h2⟩:=Rd.told (tb:=[]) (n:=60) (F:=[aM 2,aM 6,aU 8 (i64 x),aM 22,aU 24 (aD D p q w),bL 28 (aD b1 0 1 2) M2,.at 30 (2,.val (aD D p (q+1) w),a3),aM 32,lP 34 a0]) aJ aI (aG Try.prog) (fun _ _=>rfl) (by kernel_rfl) (hk (bT cc0) (hk (qI (i:Int) m (by omega) (by simp at cc0;omega)) (hk (lD (aE X0 hld0)) (hk (qI x n hi1.1 hi1.2) (hq (qL 22 E (0+(x:Int).toNat*1) M (aD D p q w)) (iP (bW (a:=⟨E,0+(x:Int).toNat*1,none⟩) hI gE hc2)) (hq (.eq (bE Try.prog 22 1 [(0,(i64 (i:Int)))] M) (1,.val (aD b1 0 1 2),M2)) (bZ (by rw[<-b2,<-b3];kernel_rfl) Nat.one_ne_zero) (hq (.q (.append [22,22] (aD D p q w) (aD b1 0 1 2) M2) (2,.val (aD D p (q+1) w),a3)) (jD b9 (Nat.succ_ne_zero _)) (hk (qI x n hi1.1 hi1.2) (hq (qS 22 E (0+(x:Int).toNat*1) (aD D p (q+1) w) a3 a0) (eF q22) hn)))))))))
 exact⟨T1,a0,h1,h2,b0,a7,b5,a5,hkp⟩
theorem r36x(E n:Nat)(a:Option Addr)(m c i:Nat){M:aA}(cc0:(decide ((i:Int)<(m:Int)))=false): ∃T1,Rd Try.prog [] (q87.loopAt 0) Try.f87.ntmps (fr [(5,(aD E 0 n (n+1))),(11,(.slice a m c)),(12,(i64 (m:Int))),(13,(i64 (i:Int)))]) M (.exit 0) T1 M/\ [5].map T1.get= [some (aD E 0 n (n+1))]:=by
 exact Rd.told (tb:=[]) (n:=60) (F:=[aO 2]) aJ aI (aG Try.prog) (fun _ _=>rfl) (by kernel_rfl) (hk (bF cc0) hn)
theorem Vy{a:Option Addr}{c D E n:Nat}{ends:List Int}{M0 M:aA}(hM:aB M)(X:Ext M0 M)(hs:aP ends (.slice a ends.length c) M0)(hb: ∀x∈ends,0<=x/\x<(n:Int))(hl:ends.length<=400)(hD:M0.next<=D)(hE:M0.next<=E)(dDE:D≠E)(gE:M.get E=some ⟨dG D (iH (eG ends) ends.length) (fun _=>0) n,22,1,0,true⟩)(gD:M.get D=some ⟨List.replicate ends.length (i64 0),3,1,0,true⟩):
  ∃M',bJ Try.prog [] (q87.loopAt 0) Try.f87.ntmps (fr [(5,aD E 0 n (n+1)),(11,.slice a ends.length c),(12,i64 ends.length),(13,i64 ((0:Nat):Int))]) M (.exit 0) (fr [(5,aD E 0 n (n+1))]) M'/\Ext M0 M'/\aB M'/\M'.get E=some ⟨dG D (iH (eG ends) ends.length) (iH (eG ends) ends.length) n,22,1,0,true⟩/\ ∃mem,M'.get D=some ⟨mem,3,1,0,true⟩/\Bk (iH (eG ends) ends.length) n (eG ends) (fun j=>i64 ((j:Nat):Int)) ends.length mem:=by
 have hall:=sG (eG ends) n ends.length fun j hj=>zT hb hj
 obtain⟨_,M',h1,h2,h3,h4,h5⟩:=bJ.for (P:=Try.prog) (GL:= []) (b:=q87.loopAt 0) (nt:=Try.f87.ntmps) (id:=0) (σ:=Unit) (n:=ends.length) (Inv:=fun i _ M1=>Ext M0 M1/\aB M1/\M1.get E=some ⟨dG D (iH (eG ends) ends.length) (iH (eG ends) i) n,22,1,0,true⟩/\ ∃mem,M1.get D=some ⟨mem,3,1,0,true⟩/\Bk (iH (eG ends) ends.length) n (eG ends) (fun j=>i64 ((j:Nat):Int)) i mem)
  (F:=fun i _=> [(5,aD E 0 n (n+1)),(11,.slice a ends.length c),(12,i64 ends.length),(13,i64 ((i:Nat):Int))])
  (O:=fun _=> [(5,aD E 0 n (n+1))])
  (by
   rintro i _ M1 hi ⟨X1,a0,a1,mem,a2,hB⟩
   obtain⟨bb,o,rfl,_⟩:=cD hs (by omega)
   have ht:ends[i]?=some ends[i]:=List.getElem?_eq_getElem hi
   have hk:=zT hb hi
   have hbi:=hb _ (List.getElem_mem hi)
   have hlt:=Pj (eG ends) hi
   have hroom:=hB.room hk hlt
   have hc:=Aq (eG ends) i (eG ends i)
   have e0:0+(ends[i]:Int).toNat*1=eG ends i:=by rw[zS hi];omega
   obtain⟨T1,M2,h1,h2,h3,h4,h5,h6,_⟩:=r36 D E n bb o ends.length c i (dN (iH (eG ends) ends.length) (eG ends i)) (iH (eG ends) i (eG ends i)) (iH (eG ends) ends.length (eG ends i)+1) ends[i] _ _ a0 X1 hD hE a2 a1 dDE (decide_eq_true (by omega)) (iC (P:=Try.prog) (ty:=3) hs ht rfl cO) hbi (by rw[e0];exact gP _ _ _ hk) ⟨by omega,by omega,by omega⟩ (by rw[e0,fO];omega)
   rw[aY (by omega)] at h2
   rw[e0,tY D _ (eG ends) i n hk] at h6
   have hst:=hB.step hk hlt
   rw[show dN (iH (eG ends) ends.length) (eG ends i)+iH (eG ends) i (eG ends i)=dN (iH (eG ends) ends.length) (eG ends i)+iH (eG ends) i (eG ends i)*1 by omega] at hst
   exact⟨(),T1,M2,h1,h2,h3,h4,h6,_,h5,hst⟩)
  (by
   rintro _ M1 ⟨X1,a0,_⟩
   exact r36x E n a ends.length c ends.length (M:=M1) (decide_eq_false (by omega)))
  ends.length 0 (by omega) (s:=()) (M:=M) ⟨X,hM,gE,_,gD,Bk.zero (by rw[hall];simp)⟩
 exact⟨M',h1,h2,h3,h4,h5⟩
theorem rK87:Try.f87.results= #[.tmp 4]:=by kernel_rfl
theorem w36(n:Nat)(aends:Option Addr)(cends:Nat)(ends:List Int){M:aA}(hM:aB M)(hends:aP ends (.slice aends ends.length cends) M)(hcond:ends.length<=400/\n<=60/\ ∀x∈ends,0<=x/\x<(n:Int)): ∃v M',Ev Try.prog [] 87 [i64 n,.slice aends ends.length cends] M v M'/\Ext M M'/\aB M'/\fG bI (lM n ends) M.next v M':=by
 obtain⟨w3,N4,M5,p6,l7,e8,E9,a6,a8⟩:=aH (x:=(n,ends)) hM aAp (⟨⟨_,_,rfl,rfl,AP.Ext (R:=aP) hends (Ext.refl M)⟩,hcond⟩)
 obtain⟨b1,b2,b3,a0,a1,db2b1,b5,b6⟩:=a8
 subst b3
 have a0:=Nat.le_trans (Ext.refl M).next a0
 have a1:=Nat.le_trans (Ext.refl M).next a1
 have a9:=(Ext.refl M).trans E9
 obtain⟨a2,a5,b0,a7,b4,b7,a3,a4⟩:=Vy a6 a9 hends hcond.2.2 hcond.1 a1 a0 db2b1 b5 b6
 exact⟨aD b1 0 n (n+1),a2,Ev.told_tmp (tb:=[0]) (n:=60) (F:=[bL 7 (aD b1 0 n (n+1)) M5,aM 13,.blk 16 [5,11,12,13] .normal (fr [(5,(aD b1 0 n (n+1)))]) a2]) aJ aI Try.func87 Yf (by kernel_rfl) rK87 (fun B=>zN (gF 96 Q96 (gQ _)) 0 a5) (fun _ h=>cF h) (by kernel_rfl) (hq (qC 96 [i64 (n:Int),.slice aends ends.length cends] M (aD b1 0 n (n+1)) M5) (aN rfl p6 l7 e8) (hk (lN hends.ln) (hq (.blk 0 (.loop (q87.loopAt 0)) Try.f87.ntmps [5,11,12,13] [some (aD b1 0 n (n+1)),some (.slice aends ends.length cends),some (i64 (ends.length:Int)),some (i64 0)] M5 .normal (fr [(5,(aD b1 0 n (n+1)))]) a2) (fH rfl) hn))),b0,a7,Rl (iZ a0 b4) (iZ a1 a3) a4 (by have:=hcond.1;omega) _⟩
abbrev Q87:=FC (iG (mG pN aP) fun x:Nat×List Int=>x.2.length<=400/\x.1<=60/\ ∀z∈x.2,0<=z/\z<(x.1:Int)) (fG bI) (fun x=>lM x.1 x.2)
theorem Uh{x:Nat×List Int}{lv:List Value}{M:aA}(hM:aB M)(h:(iG (mG pN aP) fun x:Nat×List Int=>x.2.length<=400/\x.1<=60/\ ∀z∈x.2,0<=z/\z<(x.1:Int)) x lv M): ∃v M',lQ Try.prog [] 87 Q87 lv M v M':=by
 refine FC.con h ?_
 obtain⟨⟨g0,g1,rfl,rfl,k1⟩,hcond⟩:=h
 obtain⟨n,ends⟩:=x
 obtain⟨a,c,rfl⟩:=aK.form k1
 obtain⟨v,M',h1,h2,_,h3⟩:=w36 n a c ends hM k1 hcond
 exact⟨v,M',h1,h2,h3⟩
theorem rW:(Try.prog.underlying 26).map dX=some true:=by kernel_rfl
theorem pS:(Try.prog.info? 26).map (·.size)=some 2:=by kernel_rfl
theorem rK73:Try.f73.results= #[.tmp 2]:=by kernel_rfl
theorem w26(n:Nat)(al:Option Addr)(cl:Nat)(l:List E4){M:aA}(hM:aB M)(hl:aV l (.slice al l.length cl) M)(hck:eP (n:Int) l=true)(hcd:1<=(n:Int)/\(n:Int)<=60/\l.length<=400/\ ∀e∈l,0<=e.f/\e.f<(n:Int)/\0<=e.t/\e.t<(n:Int)/\Dc e): ∃v M',Ev Try.prog [] 73 [.agg ⟨[i64 (n:Int),.slice al l.length cl]⟩] M v M'/\Ext M M'/\aB M'/\fG (eJ 108) (iQ n l) M.next v M':=by
 obtain⟨b1,M2,l3,l4,g5,E6,l5⟩:=bG hM ⟨[i64 (n:Int),.slice al l.length cl],26,2,0,true⟩
 have X9:=(Ext.refl M).trans E6
 obtain⟨n5,n8,c6,m1,l6,l1,i2,g9,j9⟩:=aH (x:=((n:Int),l)) l5 Pk (⟨_,rfl,_,rfl,AP.Ext (R:=aV) hl X9⟩)
 have g6:=i2.old g5
 have g2:n5=(.bool (eP (n:Int) l)):=j9
 subst g2
 have i9:=X9.trans i2
 have ltb1M26:=aA.lt_of_get g6
 obtain⟨w24,n9,a0,m2,l7,l2,i3,h0,k0⟩:=aH (x:=(l,tK.to)) g9 Pr (⟨⟨_,_,rfl,AP.Ext (R:=aV) hl i9,rfl⟩,hcd.2.2.1,fun e he=>(hcd.2.2.2 e he).2.2.2.2⟩)
 have j5:=i3.old g6
 have i5:aP (l.map (dB .to)) w24 (bP [(0,c6.next)] a0):=lI k0
 obtain⟨c1,c2,d1⟩:=aK.form i5
 rw[List.length_map] at d1
 subst d1
 have b6:=i9.trans i3
 obtain⟨b7,b0⟩: ∃m:aA,m=aA.mk a0.blks a0.next a0.hide []:=⟨_,rfl⟩
 have j0:Ext (aA.mk M.blks M.next M.hide []) b7:=by rw[b0];exact Ext.aside (b6)
 have h6:b7.log= []:=by rw[b0]
 have j8:b7.next=a0.next:=by rw[b0]
 have h1:aB b7:=by rw[b0];exact aB.log h0
 have ltb1M26:b1<a0.next:=by have h:=aA.lt_of_get j5;exact h
 have g7:b7.get b1=some ⟨[i64 (n:Int),.slice al l.length cl],26,2,0,true⟩:=by rw[b0];exact j5
 have k1:=eM (R:=aP) (M':=b7) i5 (fun id b h=>by rw[b0];exact h)
 obtain⟨w46,o0,a5,m3,l8,j2,e3,h2,k2⟩:=aH (x:=(l,tK.fr)) h1 Pr (⟨⟨_,_,rfl,AP.Ext (R:=aV) (AP.log (R:=aV) hl) j0,rfl⟩,hcd.2.2.1,fun e he=>(hcd.2.2.2 e he).2.2.2.2⟩)
 have k3:=dW (R:=aP) k1 e3
 have j6:=e3.old g7
 have i6:aP (l.map (dB .fr)) w46 (bP [(0,b7.next)] a5):=lI k2
 obtain⟨g0,g1,d2⟩:=aK.form i6
 rw[List.length_map] at d2
 subst d2
 have h7:a5.log= []:=by rw[<-j2];exact h6
 have j1:=j0.trans e3
 have ltb1M65:=aA.lt_of_get j6
 obtain⟨n6,o1,a2,m4,l9,j3,e4,h3,k4⟩:=aH (x:=(n,l.map (dB .fr))) h2 Uh (⟨⟨_,_,rfl,rfl,eI (R:=aP) i6⟩,by simpa using hcd.2.2.1,by have:=hcd.2.1;omega,mF hck (by simp)⟩)
 have i4:=dW (R:=aP) k3 e4
 have g8:=e4.old j6
 have i7:bI (lM n (l.map (dB .fr))) n6 (bP [(0,a5.next)] a2):=lI k4
 obtain⟨c3,c8,k9,d3,_⟩:=id i7
 rw[Co] at d3
 subst d3
 have h8:a2.log= []:=by rw[<-j3];exact h7
 have f9:=j1.trans e4
 have ltb1M84:=aA.lt_of_get g8
 obtain⟨n7,o2,a6,m5,m0,j4,e1,h4,k5⟩:=aH (x:=(n,l.map (dB .to))) h3 Uh (⟨⟨_,_,rfl,rfl,eI (R:=aP) i4⟩,by simpa using hcd.2.2.1,by have:=hcd.2.1;omega,mF hck (by simp)⟩)
 have k6:=dW (R:=aP) i4 e1
 have k7:=dW (R:=bI) i7 e1
 have j7:=e1.old g8
 have i8:bI (lM n (l.map (dB .to))) n7 (bP [(0,a2.next)] a6):=lI k5
 obtain⟨c4,c9,l0,d4,_⟩:=id i8
 rw[Co] at d4
 subst d4
 have h9:a6.log= []:=by rw[<-j4];exact h8
 have e2:=f9.trans e1
 have ltb1M104:=aA.lt_of_get j7
 obtain⟨i1,k8,a4,i0,h5,d0,b5,d5,e5⟩:=aH (x:=(l,tK.set)) h4 Pr (⟨⟨_,_,rfl,AP.Ext (R:=aV) (AP.log (R:=aV) hl) e2,rfl⟩,hcd.2.2.1,fun e he=>(hcd.2.2.2 e he).2.2.2.2⟩)
 have e6:=dW (R:=aP) k6 b5
 have e7:=dW (R:=bI) k7 b5
 have e8:=dW (R:=bI) i8 b5
 have c5:aP (l.map (dB .set)) i1 (bP [(0,a6.next)] a4):=lI e5
 obtain⟨b3,b4,b9⟩:=aK.form c5
 rw[List.length_map] at b9
 subst b9
 have d8:a4.log= []:=by rw[<-d0];exact h9
 have c0:=e2.trans b5
 obtain⟨a9,a1,a7,b8,g3,b2,d6⟩:=bG d5 ⟨[aD c3 0 n c8,aD c4 0 n c9,.slice c1 l.length c2,.slice b3 l.length b4],108,4,0,true⟩
 have e0:M.next<=a9:=by rw[<-a7];exact c0.next
 have e9:=iB (R:=aP) e6 a7 b2
 have f0:=iB (R:=bI) e7 a7 b2
 have f1:=iB (R:=bI) e8 a7 b2
 have f2:=iB (R:=aP) c5 a7 b2
 have d9:a1.log= []:=by rw[<-b8];exact d8
 have c7:=c0.trans b2
 obtain⟨a8,a3⟩: ∃m:aA,m=(aA.mk a1.blks a1.next a1.hide (a1.log++a0.log)):=⟨_,rfl⟩
 have f8:Ext M a8:=by rw[a3];exact Ext.join (b6) (c7)
 have d7:aB a8:=by rw[a3];exact d6
 have g4:a8.get a9=some ⟨[aD c3 0 n c8,aD c4 0 n c9,.slice c1 l.length c2,.slice b3 l.length b4],108,4,0,true⟩:=by rw[a3];exact g3
 have f3:=eM (R:=aP) (M':=a8) e9 (fun id b h=>by rw[a3];exact h)
 have f5:=eM (R:=bI) (M':=a8) f0 (fun id b h=>by rw[a3];exact h)
 have f6:=eM (R:=bI) (M':=a8) f1 (fun id b h=>by rw[a3];exact h)
 have f7:=eM (R:=aP) (M':=a8) f2 (fun id b h=>by rw[a3];exact h)
 have hraw:oT Try.prog [] 60 Try.f73 q73 [.agg ⟨[i64 (n:Int),.slice al l.length cl]⟩] M [bL 1 (pt b1 0) M2,aU 5 (.agg ⟨[i64 (n:Int),.slice al l.length cl]⟩),bL 7 (.bool (eP (n:Int) l)) c6,aO 10,aU 14 (.slice al l.length cl),bL 16 (.slice c1 l.length c2) a0,aU 22 (i64 (n:Int)),aU 26 (.slice al l.length cl),bL 28 (.slice g0 l.length g1) a5,bL 30 (aD c3 0 n c8) a2,aU 34 (i64 (n:Int)),bL 38 (aD c4 0 n c9) a6,aU 44 (.slice al l.length cl),bL 46 (.slice b3 l.length b4) a4,bL 50 (pt a9 0) a1] 2=some (.ret,some (pt a9 0),aA.mk a1.blks a1.next a0.hide (a1.log++a0.log),[.eq (fE Try.prog 26 (.agg ⟨[i64 (n:Int),.slice al l.length cl]⟩) M) (1,.val (pt b1 0),M2),qL 26 b1 0 M2 (.agg ⟨[i64 (n:Int),.slice al l.length cl]⟩),qC 20 [.agg ⟨[i64 (n:Int),.slice al l.length cl]⟩] M2 (.bool (eP (n:Int) l)) c6,qF (!(eP (n:Int) l)),qL 24 b1 1 c6 (.slice al l.length cl),qC 85 [.slice al l.length cl,.func (.func 86) ⟨[]⟩ ⟨[]⟩] c6 (.slice c1 l.length c2) a0,qL 3 b1 0 (aA.mk a0.blks a0.next a0.hide []) (i64 (n:Int)),qT (Nat.blt b1 a0.next),qL 24 b1 1 (aA.mk a0.blks a0.next a0.hide []) (.slice al l.length cl),qC 85 [.slice al l.length cl,.func (.func 88) ⟨[]⟩ ⟨[]⟩] (aA.mk a0.blks a0.next a0.hide []) (.slice g0 l.length g1) a5,qC 87 [i64 (n:Int),.slice g0 l.length g1] (aA.mk a5.blks a5.next a0.hide a5.log) (aD c3 0 n c8) a2,qL 3 b1 0 (aA.mk a2.blks a2.next (aS 64 [⟨5,1,a5.next,a2.next⟩,⟨4,1,a0.next,a5.next⟩,⟨3,1,a0.next,a0.next⟩]++a0.hide) a2.log) (i64 (n:Int)),qT (Nat.blt b1 a0.next),qC 87 [i64 (n:Int),.slice c1 l.length c2] (aA.mk a2.blks a2.next a0.hide a2.log) (aD c4 0 n c9) a6,qL 24 b1 1 (aA.mk a6.blks a6.next (aS 2048 [⟨9,1,a2.next,a6.next⟩,⟨5,1,a5.next,a2.next⟩,⟨4,1,a0.next,a5.next⟩,⟨3,1,a0.next,a0.next⟩]++a0.hide) a6.log) (.slice al l.length cl),qT (Nat.blt b1 a0.next),qC 85 [.slice al l.length cl,.func (.func 89) ⟨[]⟩ ⟨[]⟩] (aA.mk a6.blks a6.next a0.hide a6.log) (.slice b3 l.length b4) a4,.eq (fE Try.prog 108 (.agg ⟨[aD c3 0 n c8,aD c4 0 n c9,.slice c1 l.length c2,.slice b3 l.length b4]⟩) (aA.mk a4.blks a4.next a0.hide a4.log)) (1,.val (pt a9 0),a1),qT (cQ [b1,b1,b1] a1.log)]):=by kernel_rfl
 have m6:aA.mk a0.blks a0.next a0.hide []=b7:=b0.symm
 have m7:aA.mk a5.blks a5.next a0.hide a5.log=a5:=by rw[(show a0.hide=a5.hide from((b6).hide.trans (j1).hide.symm))]
 have m8:aA.mk a2.blks a2.next a0.hide a2.log=a2:=by rw[(show a0.hide=a2.hide from((b6).hide.trans (f9).hide.symm))]
 have m9:aA.mk a2.blks a2.next (aS 64 [⟨5,1,a5.next,a2.next⟩,⟨4,1,a0.next,a5.next⟩,⟨3,1,a0.next,a0.next⟩]++a0.hide) a2.log=bP (aS 64 [⟨5,1,a5.next,a2.next⟩,⟨4,1,a0.next,a5.next⟩,⟨3,1,a0.next,a0.next⟩]) a2:=by rw[(show a0.hide=a2.hide from((b6).hide.trans (f9).hide.symm))];rfl
 have n0:aA.mk a6.blks a6.next a0.hide a6.log=a6:=by rw[(show a0.hide=a6.hide from((b6).hide.trans (e2).hide.symm))]
 have n1:aA.mk a6.blks a6.next (aS 2048 [⟨9,1,a2.next,a6.next⟩,⟨5,1,a5.next,a2.next⟩,⟨4,1,a0.next,a5.next⟩,⟨3,1,a0.next,a0.next⟩]++a0.hide) a6.log=bP (aS 2048 [⟨9,1,a2.next,a6.next⟩,⟨5,1,a5.next,a2.next⟩,⟨4,1,a0.next,a5.next⟩,⟨3,1,a0.next,a0.next⟩]) a6:=by rw[(show a0.hide=a6.hide from((b6).hide.trans (e2).hide.symm))];rfl
 have n2:aA.mk a4.blks a4.next a0.hide a4.log=a4:=by rw[(show a0.hide=a4.hide from((b6).hide.trans (c0).hide.symm))]
 have n3:(aA.mk a1.blks a1.next a0.hide (a1.log++a0.log))=(aA.mk a1.blks a1.next a1.hide (a1.log++a0.log)):=by rw[(show a0.hide=a1.hide from((b6).hide.trans (c7).hide.symm))]
 have n4:(aA.mk a1.blks a1.next a1.hide (a1.log++a0.log))=a8:=a3.symm
 try rw[m6] at hraw
 try rw[m7] at hraw
 try rw[m8] at hraw
 try rw[m9] at hraw
 try rw[n0] at hraw
 try rw[n1] at hraw
 try rw[n2] at hraw
 try rw[n3] at hraw
 try rw[n4] at hraw
 exact⟨pt a9 0,a8,Ev.told_tmp aJ aI Try.func73 Xw (by kernel_rfl) rK73 (fun B=>lO (gF 20 Q20 (gF 85 Q85 (gF 87 Q87 (gQ _))))) (fun _ _=>rfl) hraw (hk (bZ (by rw[<-l3,<-l4];kernel_rfl) Nat.one_ne_zero) (hk (lA ⟨rW,pS⟩ g5 rfl) (hk (aN rfl m1 l6 l1) (hk (bF (by rw[hck];rfl)) (hk (lC cP g6 rfl) (hk (aN rfl m2 l7 l2) (hk (lC cO g7 rfl) (hk (mE ltb1M26) (hk (lC cP g7 rfl) (hk (aN rfl m3 l8 j2) (hk (aN rfl m4 l9 j3) (hk (lC cO (bS.2 ⟨cY (by simp;omega),g8⟩) rfl) (hk (mE ltb1M26) (hk (aN rfl m5 m0 j4) (hk (lC cP (bS.2 ⟨cY (by simp;omega),j7⟩) rfl) (hk (mE ltb1M26) (hk (aN rfl i0 h5 d0) (hk (bZ (by rw[<-a7,<-b8];kernel_rfl) Nat.one_ne_zero) (hk (dZ (by rw[d9];simp<;>omega)) hn))))))))))))))))))),f8,d7,⟨a9,_,_,_,_,rfl,iZ e0 g4,El (R:=bI) f5 (by intro id hh;simp only [bN] at hh;omega),El (R:=bI) f6 (by intro id hh;simp only [bN] at hh;omega),El (R:=aP) f3 (by intro id hh;simp only [bN] at hh;omega),El (R:=aP) f7 (by intro id hh;simp only [bN] at hh;omega)⟩⟩
abbrev Q73:=FC (iG (tL jC) fun x=>eP (x.1:Int) x.2=true) (fG (eJ 108)) (fun x=>iQ x.1 x.2)
theorem aAf{x:Nat×List E4}{lv:List Value}{M:aA}(hM:aB M)(h:(iG (tL jC) fun x:Nat×List E4=>eP (x.1:Int) x.2=true) x lv M): ∃v M',lQ Try.prog [] 73 Q73 lv M v M':=by
 refine FC.con h ?_
 obtain⟨⟨g0,rfl,k0⟩,hck⟩:=h
 obtain⟨n,l⟩:=x
 obtain⟨_,rfl,hl⟩:=k0
 obtain⟨a,c,rfl⟩:=aK.form hl
 obtain⟨v,M',h1,h2,_,h3⟩:=w26 n a c l hM hl hck (eZ hck)
 exact⟨v,M',h1,h2,h3⟩
theorem mB:(Try.prog.underlying 29).map dX=some false:=by kernel_rfl
theorem Yw:Try.f92.results= #[.tmp 4]:=by kernel_rfl
theorem w44_0(E c:Nat)(rs:List (List Int))(v:Int)(r:List Int)(ar:Option Addr)(cr:Nat){M:aA}(hM:aB M)(cc0:(decide (v<(0:Int)))=true): ∃v_ M',Ev Try.prog [] 92 [aD E 0 rs.length c,i64 v] M v_ M'/\Ext M M'/\aB M'/\v_=cI/\M'=M:=by
 exact⟨cI,M,Ev.told_tmp (tb:=[]) (n:=60) (F:=[aM 8,aM 10,aM 12,aM 14,aM 17]) aJ aI Try.func92 Ly (by kernel_rfl) Yw (aG Try.prog) (fun _ _=>rfl) (by kernel_rfl) (hk (bT cc0) (hk (bT cc0) (hk (bT cc0) (hk (bT cc0) (hk (bT cc0) hn))))),Ext.refl M,hM,⟨rfl,rfl⟩⟩
theorem w44_1(E c:Nat)(rs:List (List Int))(v:Int)(r:List Int)(ar:Option Addr)(cr:Nat){M:aA}(hM:aB M)(cc0:(decide (v<(0:Int)))=false)(cc1:(decide (v>=(rs.length:Int)))=true): ∃v_ M',Ev Try.prog [] 92 [aD E 0 rs.length c,i64 v] M v_ M'/\Ext M M'/\aB M'/\v_=cI/\M'=M:=by
 exact⟨cI,M,Ev.told_tmp (tb:=[]) (n:=60) (F:=[aO 8,aO 10,aO 12,aO 14,aO 17,aM 18]) aJ aI Try.func92 Ly (by kernel_rfl) Yw (aG Try.prog) (fun _ _=>rfl) (by kernel_rfl) (hk (bF cc0) (hk (bF cc0) (hk (bF cc0) (hk (bF cc0) (hk (bF cc0) (hk (bT cc1) hn)))))),Ext.refl M,hM,⟨rfl,rfl⟩⟩
theorem w44_2(E c:Nat)(rs:List (List Int))(v:Int)(r:List Int)(ar:Option Addr)(cr:Nat){M:aA}(hM:aB M)(cc0:(decide (v<(0:Int)))=false)(cc1:(decide (v>=(rs.length:Int)))=false)(hi0:0<=(v:Int)/\(v:Int)<rs.length)(hld1:aX Try.prog 22 ⟨E,0+(v:Int).toNat*1,none⟩ M=some (.slice ar r.length cr)): ∃v_ M',Ev Try.prog [] 92 [aD E 0 rs.length c,i64 v] M v_ M'/\Ext M M'/\aB M'/\v_=(.slice ar r.length cr)/\M'=M:=by
 exact⟨.slice ar r.length cr,M,Ev.told_tmp (tb:=[]) (n:=60) (F:=[aO 8,aO 10,aO 12,aO 14,aO 17,aO 18,aM 24,aU 26 (.slice ar r.length cr)]) aJ aI Try.func92 Ly (by kernel_rfl) Yw (aG Try.prog) (fun _ _=>rfl) (by kernel_rfl) (hk (bF cc0) (hk (bF cc0) (hk (bF cc0) (hk (bF cc0) (hk (bF cc0) (hk (bF cc1) (hk (qI v rs.length hi0.1 hi0.2) (hk (lD (hld1)) hn)))))))),Ext.refl M,hM,⟨rfl,rfl⟩⟩
abbrev Q92:=FC (mG bI pI) (plain aP) (fun x=>dH x.1 x.2)
theorem Mk{x:List (List Int)×Int}{lv:List Value}{M:aA}(hM:aB M)(h:(mG bI pI) x lv M): ∃v M',lQ Try.prog [] 92 Q92 lv M v M':=by
 refine FC.con h ?_
 obtain⟨g0,g1,rfl,k0,k1⟩:=h
 obtain⟨rs,v⟩:=x
 obtain rfl:=k1
 obtain⟨E,c,rfl⟩:=fU k0
 by_cases h0:v<0
 ·obtain⟨v',M',h1,h2,_,rfl,rfl⟩:=w44_0 E c rs v [] none 0 hM (decide_eq_true h0)
  refine⟨_,_,h1,h2,?_⟩
  show aP (dH rs v) _ _
  rw[show dH rs v= [] by unfold dH;rw[if_neg (by omega)]]
  exact aK.nil none
 ·by_cases h1:v<(rs.length:Int)
  ·have hu:rs[v.toNat]?=some rs[v.toNat]:=List.getElem?_eq_getElem (by omega)
   obtain⟨ar,cr,h2,h3⟩:=Bp (P:=Try.prog) (ty:=22) k0 hu hI
   obtain⟨v',M',k1,k2,_,rfl,rfl⟩:=w44_2 E c rs v rs[v.toNat] ar cr hM (decide_eq_false h0) (decide_eq_false (by omega)) (by omega) h2
   refine⟨_,_,k1,k2,?_⟩
   show aP (dH rs v) _ _
   rw[show dH rs v=rs[v.toNat] by unfold dH;rw[if_pos (by omega),hu];rfl]
   exact h3
  ·obtain⟨v',M',k1,k2,_,rfl,rfl⟩:=w44_1 E c rs v [] none 0 hM (decide_eq_false h0) (decide_eq_true (by omega))
   refine⟨_,_,k1,k2,?_⟩
   show aP (dH rs v) _ _
   rw[show dH rs v= [] by unfold dH;rw[if_pos (by omega),List.getElem?_eq_none (by omega)];rfl]
   exact aK.nil none
theorem rK77:Try.f77.results= #[.tmp 4]:=by kernel_rfl
theorem w32(ab Eo Ei:Nat)(co ci:Nat)(at_:Option Addr)(ct:Nat)(as_:Option Addr)(cs_:Nat)(ad:eL)(v:Int){M:aA}(hM:aB M)(gab:M.get ab=some ⟨[aD Eo 0 ad.out.length co,aD Ei 0 ad.inn.length ci,.slice at_ ad.to.length ct,.slice as_ ad.set.length cs_],108,4,0,true⟩)(hout:bI ad.out (aD Eo 0 ad.out.length co) M)(hinn:bI ad.inn (aD Ei 0 ad.inn.length ci) M)(hto:aP ad.to (.slice at_ ad.to.length ct) M)(hset:aP ad.set (.slice as_ ad.set.length cs_) M)(hok:pY ad): ∃v_ M',Ev Try.prog [] 77 [pt ab 0,i64 v] M v_ M'/\Ext M M'/\aB M'/\fG aP (dH ad.out v) M.next v_ M':=by
 obtain⟨w4,N5,M6,p7,l8,e9,a7,a2,a9⟩:=aH (x:=(ad.out,v)) hM Mk (⟨_,_,rfl,AP.Ext (R:=bI) hout (Ext.refl M),rfl⟩)
 have G3:aP (dH ad.out v) w4 M6:=a9
 obtain⟨a1,c2,b1⟩:=aK.form G3
 subst b1
 have a6:=(Ext.refl M).trans a7
 obtain⟨a5,a0,b2,b3,a8,a3,a4⟩:=yI (P:=Try.prog) (sT:=22) (xT:=22) (elem:=3) (w:=1) (y:=8) a2 (by kernel_rfl) (by kernel_rfl) (by kernel_rfl) (by decide) (by decide) rfl G3 (pA (p:=fun r=>r.length<=1073741824) (fun r hr=>Nat.le_trans (hok.1 r hr).1 (by decide)) (by decide) v) (fun _ _=>rfl)
 have b0:=a6.trans a8
 exact⟨a5,a0,Ev.told_tmp (tb:=[]) (n:=60) (F:=[aU 9 (aD Eo 0 ad.out.length co),bL 13 (.slice a1 (dH ad.out v).length c2) M6,bL 15 a5 a0]) aJ aI Try.func77 Ya (by kernel_rfl) rK77 (fun B=>lO (gF 92 Q92 (gQ _))) (fun _ _=>rfl) (by kernel_rfl) (hk (lC (o:=0) mB gab rfl) (hq (qC 92 [aD Eo 0 ad.out.length co,i64 v] M (.slice a1 (dH ad.out v).length c2) M6) (aN rfl p7 l8 e9) (hq (.q (.append [22,22] cI (.slice a1 (dH ad.out v).length c2) M6) (1,.val a5,a0)) (jD b2 Nat.one_ne_zero) hn))),b0,a3,Qs (a6).next (fun _ _=>rfl) (Nat.le_trans (pA (p:=fun r=>r.length<=400) (fun r hr=>(hok.1 r hr).1) (by decide) v) (by decide)) a4⟩
abbrev Q77:=FC (iG (mG (eJ 108) pI) fun x=>pY x.1) (fG aP) (fun x=>dH x.1.out x.2)
theorem aAh{x:eL×Int}{lv:List Value}{M:aA}(hM:aB M)(h:(iG (mG (eJ 108) pI) fun x:eL×Int=>pY x.1) x lv M): ∃v M',lQ Try.prog [] 77 Q77 lv M v M':=by
 refine FC.con h ?_
 obtain⟨⟨g0,g1,rfl,k0,k1⟩,hok⟩:=h
 obtain⟨ad,v⟩:=x
 obtain rfl:=k1
 obtain⟨ab,o,i_,t,s,rfl,gab,hout,hinn,hto,hset⟩:=k0
 obtain⟨Eo,co,rfl⟩:=fU hout
 obtain⟨Ei,ci,rfl⟩:=fU hinn
 obtain⟨at_,ct,rfl⟩:=aK.form hto
 obtain⟨as_,cs_,rfl⟩:=aK.form hset
 obtain⟨v',M',h1,h2,_,h3⟩:=w32 ab Eo Ei co ci at_ ct as_ cs_ ad v hM gab hout hinn hto hset hok
 exact⟨v',M',h1,h2,h3⟩
theorem rK78:Try.f78.results= #[.tmp 4]:=by kernel_rfl
theorem w33(ab Eo Ei:Nat)(co ci:Nat)(at_:Option Addr)(ct:Nat)(as_:Option Addr)(cs_:Nat)(ad:eL)(v:Int){M:aA}(hM:aB M)(gab:M.get ab=some ⟨[aD Eo 0 ad.out.length co,aD Ei 0 ad.inn.length ci,.slice at_ ad.to.length ct,.slice as_ ad.set.length cs_],108,4,0,true⟩)(hout:bI ad.out (aD Eo 0 ad.out.length co) M)(hinn:bI ad.inn (aD Ei 0 ad.inn.length ci) M)(hto:aP ad.to (.slice at_ ad.to.length ct) M)(hset:aP ad.set (.slice as_ ad.set.length cs_) M)(hok:pY ad): ∃v_ M',Ev Try.prog [] 78 [pt ab 0,i64 v] M v_ M'/\Ext M M'/\aB M'/\fG aP (dH ad.inn v) M.next v_ M':=by
 obtain⟨w4,N5,M6,p7,l8,e9,a7,a2,a9⟩:=aH (x:=(ad.inn,v)) hM Mk (⟨_,_,rfl,AP.Ext (R:=bI) hinn (Ext.refl M),rfl⟩)
 have G3:aP (dH ad.inn v) w4 M6:=a9
 obtain⟨a1,c2,b1⟩:=aK.form G3
 subst b1
 have a6:=(Ext.refl M).trans a7
 obtain⟨a5,a0,b2,b3,a8,a3,a4⟩:=yI (P:=Try.prog) (sT:=22) (xT:=22) (elem:=3) (w:=1) (y:=8) a2 (by kernel_rfl) (by kernel_rfl) (by kernel_rfl) (by decide) (by decide) rfl G3 (pA (p:=fun r=>r.length<=1073741824) (fun r hr=>Nat.le_trans (hok.2.1 r hr).1 (by decide)) (by decide) v) (fun _ _=>rfl)
 have b0:=a6.trans a8
 exact⟨a5,a0,Ev.told_tmp (tb:=[]) (n:=60) (F:=[aU 9 (aD Ei 0 ad.inn.length ci),bL 13 (.slice a1 (dH ad.inn v).length c2) M6,bL 15 a5 a0]) aJ aI Try.func78 Yb (by kernel_rfl) rK78 (fun B=>lO (gF 92 Q92 (gQ _))) (fun _ _=>rfl) (by kernel_rfl) (hk (lC (o:=1) mB gab rfl) (hq (qC 92 [aD Ei 0 ad.inn.length ci,i64 v] M (.slice a1 (dH ad.inn v).length c2) M6) (aN rfl p7 l8 e9) (hq (.q (.append [22,22] cI (.slice a1 (dH ad.inn v).length c2) M6) (1,.val a5,a0)) (jD b2 Nat.one_ne_zero) hn))),b0,a3,Qs (a6).next (fun _ _=>rfl) (Nat.le_trans (pA (p:=fun r=>r.length<=400) (fun r hr=>(hok.2.1 r hr).1) (by decide) v) (by decide)) a4⟩
abbrev Q78:=FC (iG (mG (eJ 108) pI) fun x=>pY x.1) (fG aP) (fun x=>dH x.1.inn x.2)
theorem aAi{x:eL×Int}{lv:List Value}{M:aA}(hM:aB M)(h:(iG (mG (eJ 108) pI) fun x:eL×Int=>pY x.1) x lv M): ∃v M',lQ Try.prog [] 78 Q78 lv M v M':=by
 refine FC.con h ?_
 obtain⟨⟨g0,g1,rfl,k0,k1⟩,hok⟩:=h
 obtain⟨ad,v⟩:=x
 obtain rfl:=k1
 obtain⟨ab,o,i_,t,s,rfl,gab,hout,hinn,hto,hset⟩:=k0
 obtain⟨Eo,co,rfl⟩:=fU hout
 obtain⟨Ei,ci,rfl⟩:=fU hinn
 obtain⟨at_,ct,rfl⟩:=aK.form hto
 obtain⟨as_,cs_,rfl⟩:=aK.form hset
 obtain⟨v',M',h1,h2,_,h3⟩:=w33 ab Eo Ei co ci at_ ct as_ cs_ ad v hM gab hout hinn hto hset hok
 exact⟨v',M',h1,h2,h3⟩
theorem r43(ab bb o m c i sb so k cs_:Nat)(s x z:Int)(vo vi vt:Value){M:aA}{M0:aA}(X0:Ext M0 M)(gab:M.get ab=some ⟨[vo,vi,vt,aD sb so k cs_],108,4,0,true⟩)(cc0:(decide ((i:Int)<(m:Int)))=true)(hld0:aX Try.prog 3 ⟨bb,o+((i:Int):Int).toNat*1,none⟩ M0=some (i64 x))(hi1:0<=(x:Int)/\(x:Int)<k)(hld2:aX Try.prog 3 ⟨sb,so+(x:Int).toNat*1,none⟩ M0=some (i64 z)): ∃T1,Rd Try.prog [] (q99.loopAt 0) Try.f99.ntmps (fr [(0,(pt ab 0)),(5,(i64 s)),(8,(aD bb o m c)),(9,(i64 (m:Int))),(10,(i64 (i:Int)))]) M .normal T1 M/\ [0,5,8,9,10].map T1.get= [some (pt ab 0),some (i64 (yY s z)),some (aD bb o m c),some (i64 (m:Int)),some (i64 (IntKind.wrap .i64 ((i:Int)+(1:Int))))]:=by
 exact Rd.told (tb:=[]) (n:=60) (F:=[aM 2,aM 4,aU 6 (i64 x),aU 18 (aD sb so k cs_),aM 22,aU 24 (i64 z)]) aJ aI (aG Try.prog) (fun _ _=>rfl) (by kernel_rfl) (hk (bT cc0) (hk (qI (i:Int) m (by omega) (by simp at cc0;omega)) (hk (lD (aE X0 hld0)) (hk (lC (o:=3) hI gab rfl) (hk (qI x k hi1.1 hi1.2) (hk (lD (aE X0 hld2)) hn))))))
theorem r43x(ab:Nat)(a:Option Addr)(m c i:Nat)(s:Int){M:aA}(cc0:(decide ((i:Int)<(m:Int)))=false): ∃T1,Rd Try.prog [] (q99.loopAt 0) Try.f99.ntmps (fr [(0,(pt ab 0)),(5,(i64 s)),(8,(.slice a m c)),(9,(i64 (m:Int))),(10,(i64 (i:Int)))]) M (.exit 0) T1 M/\ [5].map T1.get= [some (i64 s)]:=by
 exact Rd.told (tb:=[]) (n:=60) (F:=[aO 2]) aJ aI (aG Try.prog) (fun _ _=>rfl) (by kernel_rfl) (hk (bF cc0) hn)
theorem Vz{ab:Nat}{a as_:Option Addr}{c cs_:Nat}{es set:List Int}{vo vi vt:Value}{M:aA}(hM:aB M)(hs:aP es (.slice a es.length c) M)(gab:M.get ab=some ⟨[vo,vi,vt,.slice as_ set.length cs_],108,4,0,true⟩)(hset:aP set (.slice as_ set.length cs_) M)(hb: ∀j∈es,0<=j/\j<(set.length:Int)):
  ∃M',bJ Try.prog [] (q99.loopAt 0) Try.f99.ntmps (fr [(0,pt ab 0),(5,i64 0),(8,.slice a es.length c),(9,i64 es.length),(10,i64 ((0:Nat):Int))]) M (.exit 0) (fr [(5,i64 (eO set es))]) M'/\Ext M M'/\aB M':=by
 have hlen:=hs.len
 obtain⟨_,M',h1,h2,h3,h4⟩:=bJ.for (P:=Try.prog) (GL:= []) (b:=q99.loopAt 0) (nt:=Try.f99.ntmps) (id:=0) (σ:=Unit) (n:=es.length) (Inv:=fun i _ M1=>Ext M M1/\aB M1/\True)
  (F:=fun i _=> [(0,pt ab 0),(5,i64 (eO set (es.take i))),(8,.slice a es.length c),(9,i64 es.length),(10,i64 ((i:Nat):Int))])
  (O:=fun _=> [(5,i64 (eO set (es.take es.length)))])
  (by
   rintro i _ M1 hi ⟨X1,a0,_⟩
   obtain⟨bb,o,rfl,_⟩:=cD hs (by omega)
   have ht:es[i]?=some es[i]:=List.getElem?_eq_getElem hi
   have hbi:=hb _ (List.getElem_mem hi)
   obtain⟨sb,so,rfl,_⟩:=cD hset (by omega)
   have hz:set[(es[i]).toNat]?=some set[(es[i]).toNat]:=List.getElem?_eq_getElem (by omega)
   obtain⟨T1,h1,h2⟩:=r43 ab bb o es.length c i sb so set.length cs_ (eO set (es.take i)) es[i] set[(es[i]).toNat] vo vi vt (M:=M1) X1 (X1.old gab) (decide_eq_true (by omega)) (iC (P:=Try.prog) (ty:=3) hs ht rfl cO) hbi (iC (P:=Try.prog) (ty:=3) hset hz rfl cO)
   rw[aY (by omega)] at h2
   refine⟨(),T1,M1,h1,?_,X1,a0,trivial⟩
   rw[List.take_succ_eq_append_getElem hi]
   unfold eO
   rw[List.foldl_append]
   simp only [List.foldl_cons,List.foldl_nil,hz,Option.getD_some]
   exact h2)
  (by
   rintro _ M1 ⟨X1,a0,_⟩
   exact r43x ab a es.length c es.length _ (M:=M1) (decide_eq_false (by omega)))
  es.length 0 (by omega) (s:=()) (M:=M) ⟨Ext.refl M,hM,trivial⟩
 rw[List.take_length] at h1
 exact⟨M',h1,h2,h3⟩
theorem rK99:Try.f99.results= #[.tmp 4]:=by kernel_rfl
theorem w43(ab Eo Ei:Nat)(co ci:Nat)(at_:Option Addr)(ct:Nat)(as_:Option Addr)(cs_:Nat)(ad:eL)(ae:Option Addr)(ce:Nat)(es:List Int){M:aA}(hM:aB M)(gab:M.get ab=some ⟨[aD Eo 0 ad.out.length co,aD Ei 0 ad.inn.length ci,.slice at_ ad.to.length ct,.slice as_ ad.set.length cs_],108,4,0,true⟩)(hout:bI ad.out (aD Eo 0 ad.out.length co) M)(hinn:bI ad.inn (aD Ei 0 ad.inn.length ci) M)(hto:aP ad.to (.slice at_ ad.to.length ct) M)(hset:aP ad.set (.slice as_ ad.set.length cs_) M)(hok:pY ad)(hes:aP es (.slice ae es.length ce) M)(hb: ∀j∈es,0<=j/\j<(ad.set.length:Int)): ∃v_ M',Ev Try.prog [] 99 [pt ab 0,.slice ae es.length ce] M v_ M'/\Ext M M'/\aB M'/\v_=i64 (eO ad.set es):=by
 obtain⟨M1,a0,E3,a1⟩:=Vz hM (AP.Ext (R:=aP) hes (Ext.refl M)) gab (AP.Ext (R:=aP) hset (Ext.refl M)) hb
 have X7:=(Ext.refl M).trans E3
 exact⟨i64 (eO ad.set es),M1,Ev.told_tmp (tb:=[0]) (n:=60) (F:=[aM 7,.blk 10 [0,5,8,9,10] .normal (fr [(5,(i64 (eO ad.set es)))]) M1]) aJ aI Try.func99 Yj (by kernel_rfl) rK99 (fun B=>zN (gQ B) 0 a0) (fun _ h=>cF h) (by kernel_rfl) (hk (lN hes.ln) (hq (.blk 0 (.loop (q99.loopAt 0)) Try.f99.ntmps [0,5,8,9,10] [some (pt ab 0),some (i64 0),some (.slice ae es.length ce),some (i64 (es.length:Int)),some (i64 0)] M .normal (fr [(5,(i64 (eO ad.set es)))]) M1) (fH rfl) hn)),X7,a1,rfl⟩
abbrev Q99:=FC (iG (mG (eJ 108) aP) fun x=>pY x.1/\ ∀j∈x.2,0<=j/\j<(x.1.set.length:Int)) (plain pI) (fun x=>eO x.1.set x.2)
theorem Ui{x:eL×List Int}{lv:List Value}{M:aA}(hM:aB M)(h:(iG (mG (eJ 108) aP) fun x:eL×List Int=>pY x.1/\ ∀j∈x.2,0<=j/\j<(x.1.set.length:Int)) x lv M): ∃v M',lQ Try.prog [] 99 Q99 lv M v M':=by
 refine FC.con h ?_
 obtain⟨⟨g0,g1,rfl,k0,k1⟩,hok,hb⟩:=h
 obtain⟨ad,es⟩:=x
 obtain⟨ae,ce,rfl⟩:=aK.form k1
 obtain⟨ab,o,i_,t,s,rfl,gab,hout,hinn,hto,hset⟩:=k0
 obtain⟨Eo,co,rfl⟩:=fU hout
 obtain⟨Ei,ci,rfl⟩:=fU hinn
 obtain⟨at_,ct,rfl⟩:=aK.form hto
 obtain⟨as_,cs_,rfl⟩:=aK.form hset
 obtain⟨v',M',h1,h2,_,h3⟩:=w43 ab Eo Ei co ci at_ ct as_ cs_ ad ae ce es hM gab hout hinn hto hset hok k1 hb
 exact⟨v',M',h1,h2,h3⟩
theorem rK91:Try.f91.results= #[.tmp 4]:=by kernel_rfl
theorem w29(ab Eo Ei:Nat)(co ci:Nat)(at_:Option Addr)(ct:Nat)(as_:Option Addr)(cs_:Nat)(ad:eL)(v:Int){M:aA}(hM:aB M)(gab:M.get ab=some ⟨[aD Eo 0 ad.out.length co,aD Ei 0 ad.inn.length ci,.slice at_ ad.to.length ct,.slice as_ ad.set.length cs_],108,4,0,true⟩)(hout:bI ad.out (aD Eo 0 ad.out.length co) M)(hinn:bI ad.inn (aD Ei 0 ad.inn.length ci) M)(hto:aP ad.to (.slice at_ ad.to.length ct) M)(hset:aP ad.set (.slice as_ ad.set.length cs_) M)(hok:pY ad)(hadj:eJ 108 ad (pt ab 0) M): ∃v_ M',Ev Try.prog [] 91 [pt ab 0,i64 v] M v_ M'/\Ext M M'/\aB M'/\v_=i64 (jN ad v):=by
 obtain⟨R1,a5⟩: ∃m:aA,m=aA.mk M.blks M.next M.hide []:=⟨_,rfl⟩
 have X3:Ext (aA.mk M.blks M.next M.hide []) R1:=by rw[a5];exact Ext.aside (Ext.refl M)
 have f0:R1.log= []:=by rw[a5]
 have e5:aB R1:=by rw[a5];exact aB.log hM
 have ltabM:ab<M.next:=by have h:=aA.lt_of_get gab;exact h
 have g6:R1.get ab=some ⟨[aD Eo 0 ad.out.length co,aD Ei 0 ad.inn.length ci,.slice at_ ad.to.length ct,.slice as_ ad.set.length cs_],108,4,0,true⟩:=by rw[a5];exact gab
 obtain⟨g3,g7,a2,f1,e6,d2,c7,b8,d9⟩:=aH (x:=(ad.out,v)) e5 Mk (⟨_,_,rfl,AP.Ext (R:=bI) (AP.log (R:=bI) hout) X3,rfl⟩)
 have d6:=c7.old g6
 have G9:aP (dH ad.out v) g3 a2:=d9
 obtain⟨a7,c8,b4⟩:=aK.form G9
 subst b4
 have c3:a2.log= []:=by rw[<-d2];exact f0
 have b0:=X3.trans c7
 have a9:=aA.lt_of_get d6
 obtain⟨w23,g8,a1,f2,e7,d3,c9,b9,e0⟩:=aH (x:=(ad,dH ad.out v)) b8 Ui (⟨⟨_,_,rfl,AP.Ext (R:=eJ 108) (AP.log (R:=eJ 108) hadj) b0,G9⟩,hok,pA (p:=fun r=> ∀j∈r,0<=j/\j<(ad.set.length:Int)) (fun r hr=>(hok.1 r hr).2) (fun _ h=>by cases h) v⟩)
 have e4:=c9.old d6
 have b5:w23=(i64 (eO ad.set (dH ad.out v))):=e0
 subst b5
 have c4:a1.log= []:=by rw[<-d3];exact c3
 have a8:=b0.trans c9
 obtain⟨g4,g9,a3,f3,e8,d4,d7,c0,e1⟩:=aH (x:=(ad.inn,v)) b9 Mk (⟨_,_,rfl,AP.Ext (R:=bI) (AP.log (R:=bI) hinn) a8,rfl⟩)
 have d0:aP (dH ad.inn v) g4 a3:=e1
 obtain⟨b2,b3,b6⟩:=aK.form d0
 subst b6
 have c5:a3.log= []:=by rw[<-d4];exact c4
 have b1:=a8.trans d7
 obtain⟨g5,h0,a0,f5,e9,d5,d8,c1,e2⟩:=aH (x:=(ad,dH ad.inn v)) c0 Ui (⟨⟨_,_,rfl,AP.Ext (R:=eJ 108) (AP.log (R:=eJ 108) hadj) b1,d0⟩,hok,pA (p:=fun r=> ∀j∈r,0<=j/\j<(ad.set.length:Int)) (fun r hr=>(hok.2.1 r hr).2) (fun _ h=>by cases h) v⟩)
 have b7:g5=(i64 (eO ad.set (dH ad.inn v))):=e2
 subst b7
 have c6:a0.log= []:=by rw[<-d5];exact c5
 have d1:=b1.trans d8
 obtain⟨a6,a4⟩: ∃m:aA,m=(aA.mk a0.blks a0.next a0.hide (a0.log++M.log)):=⟨_,rfl⟩
 have e3:Ext M a6:=by rw[a4];exact Ext.join (Ext.refl M) (d1)
 have c2:aB a6:=by rw[a4];exact c1
 have hraw:oT Try.prog [] 60 Try.f91 q91 [pt ab 0,i64 v] M [aU 11 (aD Eo 0 ad.out.length co),bL 15 (.slice a7 (dH ad.out v).length c8) a2,bL 17 (i64 (eO ad.set (dH ad.out v))) a1,aU 27 (aD Ei 0 ad.inn.length ci),bL 31 (.slice b2 (dH ad.inn v).length b3) a3,bL 33 (i64 (eO ad.set (dH ad.inn v))) a0] 4=some (.ret,some (i64 (yY (eO ad.set (dH ad.out v)) (eO ad.set (dH ad.inn v)))),aA.mk a0.blks a0.next M.hide (a0.log++M.log),[qL 29 ab 0 (aA.mk M.blks M.next M.hide []) (aD Eo 0 ad.out.length co),qC 92 [aD Eo 0 ad.out.length co,i64 v] (aA.mk M.blks M.next M.hide []) (.slice a7 (dH ad.out v).length c8) a2,qC 99 [pt ab 0,.slice a7 (dH ad.out v).length c8] (aA.mk a2.blks a2.next M.hide a2.log) (i64 (eO ad.set (dH ad.out v))) a1,qL 29 ab 1 (aA.mk a1.blks a1.next (aS 3584 [⟨7,1,a2.next,a1.next⟩,⟨6,1,M.next,a2.next⟩,⟨4,1,M.next,M.next⟩]++M.hide) a1.log) (aD Ei 0 ad.inn.length ci),qT (Nat.blt ab M.next),qC 92 [aD Ei 0 ad.inn.length ci,i64 v] (aA.mk a1.blks a1.next M.hide a1.log) (.slice b2 (dH ad.inn v).length b3) a3,qC 99 [pt ab 0,.slice b2 (dH ad.inn v).length b3] (aA.mk a3.blks a3.next M.hide a3.log) (i64 (eO ad.set (dH ad.inn v))) a0,qT (cQ [ab] a0.log)]):=by kernel_rfl
 have f6:aA.mk M.blks M.next M.hide []=R1:=a5.symm
 have f7:aA.mk a2.blks a2.next M.hide a2.log=a2:=by rw[(show M.hide=a2.hide from((Ext.refl M).hide.trans (b0).hide.symm))]
 have f8:aA.mk a1.blks a1.next M.hide a1.log=a1:=by rw[(show M.hide=a1.hide from((Ext.refl M).hide.trans (a8).hide.symm))]
 have f9:aA.mk a1.blks a1.next (aS 3584 [⟨7,1,a2.next,a1.next⟩,⟨6,1,M.next,a2.next⟩,⟨4,1,M.next,M.next⟩]++M.hide) a1.log=bP (aS 3584 [⟨7,1,a2.next,a1.next⟩,⟨6,1,M.next,a2.next⟩,⟨4,1,M.next,M.next⟩]) a1:=by rw[(show M.hide=a1.hide from((Ext.refl M).hide.trans (a8).hide.symm))];rfl
 have g0:aA.mk a3.blks a3.next M.hide a3.log=a3:=by rw[(show M.hide=a3.hide from((Ext.refl M).hide.trans (b1).hide.symm))]
 have g1:(aA.mk a0.blks a0.next M.hide (a0.log++M.log))=(aA.mk a0.blks a0.next a0.hide (a0.log++M.log)):=by rw[(show M.hide=a0.hide from((Ext.refl M).hide.trans (d1).hide.symm))]
 have g2:(aA.mk a0.blks a0.next a0.hide (a0.log++M.log))=a6:=a4.symm
 try rw[f6] at hraw
 try rw[f7] at hraw
 try rw[f8] at hraw
 try rw[f9] at hraw
 try rw[g0] at hraw
 try rw[g1] at hraw
 try rw[g2] at hraw
 exact⟨i64 (yY (eO ad.set (dH ad.out v)) (eO ad.set (dH ad.inn v))),a6,Ev.told_tmp aJ aI Try.func91 Yh (by kernel_rfl) rK91 (fun B=>lO (gF 99 Q99 (gF 92 Q92 (gQ _)))) (fun _ _=>rfl) hraw (hk (lC mB g6 rfl) (hk (aN rfl f1 e6 d2) (hk (aN rfl f2 e7 d3) (hk (lC mB (bS.2 ⟨cY (by simp;omega),e4⟩) rfl) (hk (mE ltabM) (hk (aN rfl f3 e8 d4) (hk (aN rfl f5 e9 d5) (hk (dZ (by rw[c6];simp<;>omega)) hn)))))))),e3,c2,rfl⟩
abbrev Q91:=FC (iG (mG (eJ 108) pI) fun x=>pY x.1) (plain pI) (fun x=>jN x.1 x.2)
theorem aAo{x:eL×Int}{lv:List Value}{M:aA}(hM:aB M)(h:(iG (mG (eJ 108) pI) fun x:eL×Int=>pY x.1) x lv M): ∃v M',lQ Try.prog [] 91 Q91 lv M v M':=by
 refine FC.con h ?_
 obtain⟨⟨g0,g1,rfl,k0,k1⟩,hok⟩:=h
 obtain⟨ad,v⟩:=x
 obtain rfl:=k1
 have hadj:=k0
 obtain⟨ab,o,i_,t,s,rfl,gab,hout,hinn,hto,hset⟩:=k0
 obtain⟨Eo,co,rfl⟩:=fU hout
 obtain⟨Ei,ci,rfl⟩:=fU hinn
 obtain⟨at_,ct,rfl⟩:=aK.form hto
 obtain⟨as_,cs_,rfl⟩:=aK.form hset
 obtain⟨v',M',h1,h2,_,h3⟩:=w29 ab Eo Ei co ci at_ ct as_ cs_ ad v hM gab hout hinn hto hset hok hadj
 exact⟨v',M',h1,h2,h3⟩
theorem Ve:(Try.prog.underlying 75).map dX=some false:=by kernel_rfl
theorem La:(Try.prog.underlying 77).map dX=some true:=by kernel_rfl
theorem Di:(Try.prog.info? 77).map (·.size)=some 2:=by kernel_rfl
theorem Qv(M:aA): ∀k:Nat,k<32->Go.Am.arun Try.prog [] zV 1000 90 [.int .u64 (k:Int)] M=some (i64 ((Gu k:Nat):Int),M):=by
 intro k h
 have hc:k=0\/k=1\/k=2\/k=3\/k=4\/k=5\/k=6\/k=7\/k=8\/k=9\/k=10\/k=11\/k=12\/k=13\/k=14\/k=15\/k=16\/k=17\/k=18\/k=19\/k=20\/k=21\/k=22\/k=23\/k=24\/k=25\/k=26\/k=27\/k=28\/k=29\/k=30\/k=31:=by omega
 rcases hc with rfl|rfl|rfl|rfl|rfl|rfl|rfl|rfl|rfl|rfl|rfl|rfl|rfl|rfl|rfl|rfl|rfl|rfl|rfl|rfl|rfl|rfl|rfl|rfl|rfl|rfl|rfl|rfl|rfl|rfl|rfl|rfl<;>(show Go.Am.arun Try.prog [] zV 1000 90 _ M=_)<;>kernel_rfl
abbrev Q90:=FC (iG (tL pU) fun k=>k<32) (plain pI) (fun k=>((Gu k:Nat):Int))
theorem aAn{k:Nat}{lv:List Value}{M:aA}(hM:aB M)(h:(iG (tL pU) fun k=>k<32) k lv M): ∃v M',lQ Try.prog [] 90 Q90 lv M v M':=by
 refine FC.con h ?_
 obtain⟨⟨g0,rfl,rfl⟩,hk⟩:=h
 exact⟨_,M,Ev.of_spec (fun B=>cV.arun aJ aI cJ.none 1000 90) (Qv M k hk),Ext.refl M,rfl⟩
theorem rK76:Try.f76.results= #[.tmp 4]:=by kernel_rfl
theorem w21(n ab:Nat)(ad:eL)(v:Int){M:aA}(hM:aB M)(hadj:eJ 108 ad (pt ab 0) M)(hok:pY ad): ∃v_ M',Ev Try.prog [] 76 [.agg ⟨[i64 (n:Int),pt ab 0]⟩,i64 v] M v_ M'/\Ext M M'/\aB M'/\v_= .bool (jB ad v):=by
 obtain⟨b1,M2,b5,b6,g5,E6,b7⟩:=bG hM ⟨[i64 (n:Int),pt ab 0],77,2,0,true⟩
 have X9:=(Ext.refl M).trans E6
 obtain⟨c2,c3,a0,c0,b8,b3,a6,a4,a8⟩:=aH (x:=(ad,v)) b7 aAo (⟨⟨_,_,rfl,AP.Ext (R:=eJ 108) hadj X9,rfl⟩,hok⟩)
 have a2:c2=(i64 (jN ad v)):=a8
 subst a2
 have b0:=X9.trans a6
 obtain⟨w22,c4,a1,c1,b9,b4,a7,a5,a9⟩:=aH (x:=(jN ad v).toNat) a4 aAn (⟨⟨_,rfl,congrArg (Value.int .u64) (wrapU (qV hok v))⟩,by have:=qV hok v;omega⟩)
 have a3:w22=(i64 ((Gu (jN ad v).toNat:Nat):Int)):=a9
 subst a3
 have b2:=b0.trans a7
 exact⟨.bool (decide (((Gu (jN ad v).toNat:Nat):Int)>=(2:Int))),a1,Ev.told_tmp (tb:=[]) (n:=60) (F:=[bL 1 (pt b1 0) M2,aU 7 (pt ab 0),bL 11 (i64 (jN ad v)) a0,bL 15 (i64 ((Gu (jN ad v).toNat:Nat):Int)) a1]) aJ aI Try.func76 Xz (by kernel_rfl) rK76 (fun B=>lO (gF 90 Q90 (gF 91 Q91 (gQ _)))) (fun _ _=>rfl) (by kernel_rfl) (hq (.eq (fE Try.prog 77 (.agg ⟨[i64 (n:Int),pt ab 0]⟩) M) (1,.val (pt b1 0),M2)) (bZ (by rw[<-b5,<-b6];kernel_rfl) Nat.one_ne_zero) (hk (lC (o:=1) Ve g5 rfl) (hq (qC 91 [pt ab 0,i64 v] M2 (i64 (jN ad v)) a0) (aN rfl c0 b8 b3) (hq (qC 90 [.int .u64 (IntKind.wrap .u64 (jN ad v))] a0 (i64 ((Gu (jN ad v).toNat:Nat):Int)) a1) (aN rfl c1 b9 b4) hn)))),b2,a5,rfl⟩
abbrev Q76:=FC (iG (mG (mD 108) pI) fun x=>pY x.1.2) (plain pB) (fun x=>jB x.1.2 x.2)
theorem Pq{x:(Nat×eL)×Int}{lv:List Value}{M:aA}(hM:aB M)(h:(iG (mG (mD 108) pI) fun x:(Nat×eL)×Int=>pY x.1.2) x lv M): ∃v M',lQ Try.prog [] 76 Q76 lv M v M':=by
 refine FC.con h ?_
 obtain⟨⟨g0,g1,rfl,k0,k1⟩,hok⟩:=h
 obtain⟨⟨n,ad⟩,v⟩:=x
 obtain rfl:=k1
 obtain⟨p,rfl,hadj⟩:=k0
 obtain⟨ab,o,i_,t,s,rfl,gab,hout,hinn,hto,hset⟩:=id hadj
 obtain⟨v',M',h1,h2,_,h3⟩:=w21 n ab ad v hM hadj hok
 exact⟨v',M',h1,h2,h3⟩
theorem rK54:Try.f54.results= #[.tmp 4]:=by kernel_rfl
theorem Zb(n ab:Nat)(ad:eL)(v:Int){M:aA}(hM:aB M)(hadj:eJ 108 ad (pt ab 0) M)(hok:pY ad): ∃v_ M',Ev Try.prog [] 54 [.agg ⟨[i64 (n:Int),pt ab 0]⟩,i64 v] M v_ M'/\Ext M M'/\aB M'/\v_=i64 ((dE ad v:Nat):Int):=by
 obtain⟨b1,M2,d5,d6,g5,E6,d8⟩:=bG hM ⟨[i64 (n:Int),pt ab 0],77,2,0,true⟩
 have X9:=(Ext.refl M).trans E6
 obtain⟨a4,a2⟩: ∃m:aA,m=aA.mk M2.blks M2.next M2.hide []:=⟨_,rfl⟩
 have c6:Ext (aA.mk M.blks M.next M.hide []) a4:=by rw[a2];exact Ext.aside (X9)
 have c0:a4.log= []:=by rw[a2]
 have b6:aB a4:=by rw[a2];exact aB.log d8
 have ltb1M2:b1<M2.next:=by have h:=aA.lt_of_get g5;exact h
 have d0:a4.get b1=some ⟨[i64 (n:Int),pt ab 0],77,2,0,true⟩:=by rw[a2];exact g5
 obtain⟨e8,f0,a1,e1,d9,c8,c3,b7,d2⟩:=aH (x:=(ad,v)) b6 aAh (⟨⟨_,_,rfl,AP.Ext (R:=eJ 108) (AP.log (R:=eJ 108) hadj) c6,rfl⟩,hok⟩)
 have d7:=c3.old d0
 have c4:aP (dH ad.out v) e8 a1:=fG.out (R:=aP) d2
 obtain⟨a9,b2,b4⟩:=aK.form c4
 subst b4
 have a5:=aK.ln c4
 have c1:a1.log= []:=by rw[<-c8];exact c0
 have a8:=c6.trans c3
 obtain⟨e9,f1,a0,e2,e0,c9,d1,b8,d3⟩:=aH (x:=(ad,v)) b7 aAi (⟨⟨_,_,rfl,AP.Ext (R:=eJ 108) (AP.log (R:=eJ 108) hadj) a8,rfl⟩,hok⟩)
 have c5:aP (dH ad.inn v) e9 a0:=fG.out (R:=aP) d3
 obtain⟨b0,b3,b5⟩:=aK.form c5
 subst b5
 have a6:=aK.ln c5
 have c2:a0.log= []:=by rw[<-c9];exact c1
 have c7:=a8.trans d1
 obtain⟨a7,a3⟩: ∃m:aA,m=(aA.mk a0.blks a0.next a0.hide (a0.log++M2.log)):=⟨_,rfl⟩
 have d4:Ext M a7:=by rw[a3];exact Ext.join (X9) (c7)
 have b9:aB a7:=by rw[a3];exact b8
 have hraw:oT Try.prog [] 60 Try.f54 q54 [.agg ⟨[i64 (n:Int),pt ab 0]⟩,i64 v] M [bL 1 (pt b1 0) M2,aU 7 (pt ab 0),bL 11 (.slice a9 (dH ad.out v).length b2) a1,aM 13,aU 17 (pt ab 0),bL 21 (.slice b0 (dH ad.inn v).length b3) a0,aM 23] 4=some (.ret,some (i64 (IntKind.wrap .i64 ((((dH ad.out v).length:Nat):Int)+(((dH ad.inn v).length:Nat):Int)))),aA.mk a0.blks a0.next M2.hide (a0.log++M2.log),[.eq (fE Try.prog 77 (.agg ⟨[i64 (n:Int),pt ab 0]⟩) M) (1,.val (pt b1 0),M2),qL 75 b1 1 (aA.mk M2.blks M2.next M2.hide []) (pt ab 0),qC 77 [pt ab 0,i64 v] (aA.mk M2.blks M2.next M2.hide []) (.slice a9 (dH ad.out v).length b2) a1,.ln a9 (dH ad.out v).length b2,qL 75 b1 1 (aA.mk a1.blks a1.next (aS 32 [⟨3,1,M2.next,a1.next⟩,⟨1,1,M2.next,M2.next⟩]++M2.hide) a1.log) (pt ab 0),qT (Nat.blt b1 M2.next),qC 78 [pt ab 0,i64 v] (aA.mk a1.blks a1.next M2.hide a1.log) (.slice b0 (dH ad.inn v).length b3) a0,.ln b0 (dH ad.inn v).length b3,qT (cQ [b1] a0.log)]):=by kernel_rfl
 have e3:aA.mk M2.blks M2.next M2.hide []=a4:=a2.symm
 have e4:aA.mk a1.blks a1.next M2.hide a1.log=a1:=by rw[(show M2.hide=a1.hide from((X9).hide.trans (a8).hide.symm))]
 have e5:aA.mk a1.blks a1.next (aS 32 [⟨3,1,M2.next,a1.next⟩,⟨1,1,M2.next,M2.next⟩]++M2.hide) a1.log=bP (aS 32 [⟨3,1,M2.next,a1.next⟩,⟨1,1,M2.next,M2.next⟩]) a1:=by rw[(show M2.hide=a1.hide from((X9).hide.trans (a8).hide.symm))];rfl
 have e6:(aA.mk a0.blks a0.next M2.hide (a0.log++M2.log))=(aA.mk a0.blks a0.next a0.hide (a0.log++M2.log)):=by rw[(show M2.hide=a0.hide from((X9).hide.trans (c7).hide.symm))]
 have e7:(aA.mk a0.blks a0.next a0.hide (a0.log++M2.log))=a7:=a3.symm
 try rw[e3] at hraw
 try rw[e4] at hraw
 try rw[e5] at hraw
 try rw[e6] at hraw
 try rw[e7] at hraw
 exact⟨i64 (IntKind.wrap .i64 ((((dH ad.out v).length:Nat):Int)+(((dH ad.inn v).length:Nat):Int))),a7,Ev.told_tmp aJ aI Try.func54 Xq (by kernel_rfl) rK54 (fun B=>lO (gF 77 Q77 (gF 78 Q78 (gQ _)))) (fun _ _=>rfl) hraw (hk (bZ (by rw[<-d5,<-d6];kernel_rfl) Nat.one_ne_zero) (hk (lC Ve d0 rfl) (hk (aN rfl e1 d9 c8) (hk (lN a5) (hk (lC Ve (bS.2 ⟨cY (by simp;omega),d7⟩) rfl) (hk (mE ltb1M2) (hk (aN rfl e2 e0 c9) (hk (lN a6) (hk (dZ (by rw[c2];simp<;>omega)) hn))))))))),d4,b9,congrArg i64 (wU (by have:=rX hok v;unfold dE at this;omega))⟩
abbrev Q54:=FC (iG (mG (mD 108) pI) fun x=>pY x.1.2) (plain pI) (fun x=>((dE x.1.2 x.2:Nat):Int))
theorem Ud{x:(Nat×eL)×Int}{lv:List Value}{M:aA}(hM:aB M)(h:(iG (mG (mD 108) pI) fun x:(Nat×eL)×Int=>pY x.1.2) x lv M): ∃v M',lQ Try.prog [] 54 Q54 lv M v M':=by
 refine FC.con h ?_
 obtain⟨⟨g0,g1,rfl,k0,k1⟩,hok⟩:=h
 obtain⟨⟨n,ad⟩,v⟩:=x
 obtain rfl:=k1
 obtain⟨p,rfl,hadj⟩:=k0
 obtain⟨ab,o,i_,t,s,rfl,gab,hout,hinn,hto,hset⟩:=id hadj
 obtain⟨v',M',h1,h2,_,h3⟩:=Zb n ab ad v hM hadj hok
 exact⟨v',M',h1,h2,h3⟩
theorem rK51:Try.f51.results= #[.cell 2 77]:=by kernel_rfl
theorem Tn(n:Nat)(al:Option Addr)(cl:Nat)(l:List E4){M:aA}(hM:aB M)(hl:aV l (.slice al l.length cl) M)(hck:eP (n:Int) l=true): ∃v_ M',Ev Try.prog [] 51 [.agg ⟨[i64 (n:Int),.slice al l.length cl]⟩] M v_ M'/\Ext M M'/\aB M'/\fG (mD 108) (n,iQ n l) M.next v_ M':=by
 obtain⟨b1,M2,f9,g0,g5,E6,h0⟩:=bG hM ⟨[i64 (n:Int),.slice al l.length cl],26,2,0,true⟩
 have X9:=(Ext.refl M).trans E6
 obtain⟨a2,a6,a9,b9,e1,d6,c7⟩:=bG h0 ⟨[i64 0,.pointer none],77,2,0,true⟩
 have d5:M.next<=a2:=by rw[<-a9];exact X9.next
 have c3:=d6.old g5
 have d8:=X9.trans d6
 have ltb1M24:=aA.lt_of_get c3
 have ltb10M24:=aA.lt_of_get e1
 obtain⟨w22,h9,b4,h6,h1,f7,b6,c8,e5⟩:=aH (x:=(n,l)) c7 aAf (⟨⟨_,rfl,_,rfl,AP.Ext (R:=aV) hl d8⟩,hck⟩)
 have e2:=b6.old c3
 have e3:=b6.old e1
 have d7:eJ 108 (iQ n l) w22 (bP [(0,a6.next)] b4):=lI e5
 obtain⟨a0,_,_,_,_,c1,_⟩:=id d7
 subst c1
 have d9:=d8.trans b6
 obtain⟨a1,b7,a3,c0,g1,b3,c9⟩:=bG c8 ⟨[i64 0,.pointer none],77,2,0,true⟩
 have b2:M.next<=a1:=by rw[<-a3];exact d9.next
 have db1b35:b1≠a1:=by have:=aA.lt_of_get e2;omega
 have db10b35:a2≠a1:=by have:=aA.lt_of_get e3;omega
 have e6:=iB (R:=(eJ 108)) d7 a3 b3
 have g2:=b3.old e2
 have g3:=b3.old e3
 have f2:=d9.trans b3
 obtain⟨a7,Tg,c4,a4,e0,d0,h3⟩:=bH (o:=0) (v:=(.agg ⟨[i64 0,pt a0 0]⟩)) (new:= [i64 0,pt a0 0]) f2 b2 c9 Di g1 rfl rfl (Nat.zero_le _) (Nat.le_of_ble_eq_true rfl) rfl
 replace c4:a7.get a1=some ⟨[i64 0,pt a0 0],77,2,0,true⟩:=c4
 have e7:=gO (R:=(eJ 108)) e6 (fun id h _=>a4 id h) (by intro id hh;simp only [bN] at hh;omega)
 have e4:=(a4 _ db1b35).trans g2
 have g4:=(a4 _ db10b35).trans g3
 obtain⟨w57,i0,b8,h7,h2,f8,a5,d1,e8⟩:=aH (x:=((n:Int),l)) d0 Pk (⟨_,rfl,_,rfl,AP.Ext (R:=aV) hl e0⟩)
 have e9:=dW (R:=(eJ 108)) e7 a5
 have g6:=a5.old e4
 have g7:=a5.old g4
 have g8:=a5.old c4
 have c2:w57=(.bool (eP (n:Int) l)):=e8
 subst c2
 have f3:=e0.trans a5
 obtain⟨a8,q73,c5,b0,f5,d2,h4⟩:=bH (o:=0) (v:=(i64 (n:Int))) (new:= [i64 (n:Int),pt a0 0]) f3 b2 d1 He g8 rfl rfl (Nat.zero_le _) (Nat.le_of_ble_eq_true rfl) rfl
 replace c5:a8.get a1=some ⟨[i64 (n:Int),pt a0 0],77,2,0,true⟩:=c5
 have f0:=gO (R:=(eJ 108)) e9 (fun id h _=>b0 id h) (by intro id hh;simp only [bN] at hh;omega)
 have g9:=(b0 _ db10b35).trans g7
 obtain⟨b5,h8,c6,d4,f6,d3,h5⟩:=bH (o:=0) (v:=(.agg ⟨[i64 (n:Int),pt a0 0]⟩)) (new:= [i64 (n:Int),pt a0 0]) f5 d5 d2 Di g9 rfl rfl (Nat.zero_le _) (Nat.le_of_ble_eq_true rfl) rfl
 replace c6:b5.get a2=some ⟨[i64 (n:Int),pt a0 0],77,2,0,true⟩:=c6
 have f1:=gO (R:=(eJ 108)) f0 (fun id h _=>d4 id h) (by intro id hh;simp only [bN] at hh;omega)
 exact⟨.agg ⟨[i64 (n:Int),pt a0 0]⟩,b5,Ev.told_cell (tb:=[]) (n:=60) (F:=[bL 1 (pt b1 0) M2,bL 3 (pt a2 0) a6,aU 5 (.agg ⟨[i64 (n:Int),.slice al l.length cl]⟩),bL 7 (pt a0 0) b4,bL 11 (pt a1 0) b7,lP 13 a7,aU 15 (.agg ⟨[i64 (n:Int),.slice al l.length cl]⟩),bL 17 (.bool (eP (n:Int) l)) b8,aM 18,aU 22 (i64 (n:Int)),lP 26 a8,aU 28 (.agg ⟨[i64 (n:Int),pt a0 0]⟩),lP 30 b5]) aJ aI Try.func51 Xn (by kernel_rfl) rK51 (fun B=>lO (gF 73 Q73 (gF 20 Q20 (gQ _)))) (fun _ _=>rfl) (by kernel_rfl) (lZ (a:=⟨a2,0,none⟩) La Di c6 rfl) (hq (.eq (fE Try.prog 26 (.agg ⟨[i64 (n:Int),.slice al l.length cl]⟩) M) (1,.val (pt b1 0),M2)) (bZ (by rw[<-f9,<-g0];kernel_rfl) Nat.one_ne_zero) (hq (.eq (dL Try.prog 77 M2) (1,.val (pt a2 0),a6)) (bZ (by rw[<-a9,<-b9];kernel_rfl) Nat.one_ne_zero) (hq (qL 26 b1 0 a6 (.agg ⟨[i64 (n:Int),.slice al l.length cl]⟩)) (lA ⟨rW,pS⟩ c3 rfl) (hq (qC 73 [.agg ⟨[i64 (n:Int),.slice al l.length cl]⟩] a6 (pt a0 0) b4) (aN rfl h6 h1 f7) (hq (.eq (dL Try.prog 77 b4) (1,.val (pt a1 0),b7)) (bZ (by rw[<-a3,<-c0];kernel_rfl) Nat.one_ne_zero) (hq (qS 77 a1 0 (.agg ⟨[i64 0,pt a0 0]⟩) b7 a7) (eF Tg) (hq (qL 26 b1 0 a7 (.agg ⟨[i64 (n:Int),.slice al l.length cl]⟩)) (lA ⟨rW,pS⟩ e4 rfl) (hq (qC 20 [.agg ⟨[i64 (n:Int),.slice al l.length cl]⟩] a7 (.bool (eP (n:Int) l)) b8) (aN rfl h7 h2 f8) (hk (bT hck) (hk (lC (o:=0) cO g6 rfl) (hq (qS 3 a1 0 (i64 (n:Int)) b8 a8) (eF q73) (hq (qL 77 a1 0 a8 (.agg ⟨[i64 (n:Int),pt a0 0]⟩)) (lA ⟨La,Di⟩ c5 rfl) (hq (qS 77 a2 0 (.agg ⟨[i64 (n:Int),pt a0 0]⟩) a8 b5) (eF h8) hn))))))))))))),f6,d3,⟨_,rfl,El (R:=eJ 108) f1 (by intro id hh;simp only [bN] at hh;omega)⟩⟩
abbrev Q51:=FC (iG (tL jC) fun x=>eP (x.1:Int) x.2=true) (fG (mD 108)) (fun x=>(x.1,iQ x.1 x.2))
theorem aAb{x:Nat×List E4}{lv:List Value}{M:aA}(hM:aB M)(h:(iG (tL jC) fun x:Nat×List E4=>eP (x.1:Int) x.2=true) x lv M): ∃v M',lQ Try.prog [] 51 Q51 lv M v M':=by
 refine FC.con h ?_
 obtain⟨⟨g0,rfl,k0⟩,hck⟩:=h
 obtain⟨n,l⟩:=x
 obtain⟨_,rfl,hl⟩:=k0
 obtain⟨a,c,rfl⟩:=aK.form hl
 obtain⟨v,M',h1,h2,_,h3⟩:=Tn n a c l hM hl hck
 exact⟨v,M',h1,h2,h3⟩
theorem r24L(b n ab i:Nat)(S:Value)(ad:eL){M M0:aA}(hM:aB M)(X0:Ext M0 M)(gb:M.get b=some ⟨[i64 n,pt ab 0],77,2,0,true⟩)(hadj:eJ 108 ad (pt ab 0) M0)(hok:pY ad)(cc0:(decide ((i:Int)<(n:Int)))=true)(cc1:(jB ad (i:Int))=true): ∃T1 M',Rd Try.prog [] (q53.loopAt 0) Try.f53.ntmps (fr [(1,(pt b 0)),(3,S),(6,(i64 (n:Int))),(7,(i64 (i:Int)))]) M .normal T1 M'/\ [1,3,6,7].map T1.get= [some (pt b 0),some S,some (i64 (n:Int)),some (i64 (IntKind.wrap .i64 ((i:Int)+(1:Int))))]/\Ext M0 M'/\aB M'/\M'.get b=some ⟨[i64 (n:Int),pt ab 0],77,2,0,true⟩/\ ∀id k,M.get id=some k->id≠b->M'.get id=some k:=by
 obtain⟨w1,N2,M3,p4,l5,e6,E7,a3,F9⟩:=aH (x:=((n,ad),(i:Int))) hM Pq (⟨⟨_,_,rfl,⟨_,rfl,AP.Ext (R:=(eJ 108)) hadj X0⟩,rfl⟩,hok⟩)
 have a2:=E7.old gb
 have a1:w1=(.bool (jB ad (i:Int))):=F9
 subst a1
 have a0:=X0.trans E7
 have hkp: ∀id k,M.get id=some k->id≠b->M3.get id=some k:=fun id k g h_b=>by
  have g:=E7.old g
  exact g
 obtain⟨T1,h1,h2⟩:=Rd.told (tb:=[]) (n:=60) (F:=[aM 2,aU 8 (.agg ⟨[i64 (n:Int),pt ab 0]⟩),bL 12 (.bool (jB ad (i:Int))) M3,aO 15]) aJ aI (fun B=>lO (gF 76 Q76 (gQ _))) (fun _ _=>rfl) (by kernel_rfl) (hk (bT cc0) (hq (qL 77 b 0 M (.agg ⟨[i64 (n:Int),pt ab 0]⟩)) (lA ⟨La,Di⟩ gb rfl) (hq (qC 76 [.agg ⟨[i64 (n:Int),pt ab 0]⟩,i64 (i:Int)] M (.bool (jB ad (i:Int))) M3) (aN rfl p4 l5 e6) (hk (bF (x:=!(jB ad (i:Int))) (by rw[cc1];rfl)) hn))))
 exact⟨T1,M3,h1,h2,a0,a3,a2,hkp⟩
theorem r24x(b n i:Nat)(S:Value){M:aA}(cc0:(decide ((i:Int)<(n:Int)))=false): ∃T1,Rd Try.prog [] (q53.loopAt 0) Try.f53.ntmps (fr [(1,(pt b 0)),(3,S),(6,(i64 (n:Int))),(7,(i64 (i:Int)))]) M (.exit 0) T1 M/\ [3].map T1.get= [some S]:=by
 exact Rd.told (tb:=[]) (n:=60) (F:=[aO 2]) aJ aI (aG Try.prog) (fun _ _=>rfl) (by kernel_rfl) (hk (bF cc0) hn)
theorem r24N(b n ab i:Nat)(ad:eL){M M0:aA}(hM:aB M)(X0:Ext M0 M)(gb:M.get b=some ⟨[i64 n,pt ab 0],77,2,0,true⟩)(hadj:eJ 108 ad (pt ab 0) M0)(hok:pY ad)(cc0:(decide ((i:Int)<(n:Int)))=true)(cc1:(jB ad (i:Int))=false): ∃T1 M' b23,Rd Try.prog [] (q53.loopAt 0) Try.f53.ntmps (fr [(1,(pt b 0)),(3,cI),(6,(i64 (n:Int))),(7,(i64 (i:Int)))]) M .normal T1 M'/\ [1,3,6,7].map T1.get= [some (pt b 0),some (aD b23 0 1 1),some (i64 (n:Int)),some (i64 (IntKind.wrap .i64 ((i:Int)+(1:Int))))]/\Ext M0 M'/\aB M'/\M'.get b=some ⟨[i64 (n:Int),pt ab 0],77,2,0,true⟩/\M0.next<=b23/\M'.get b23=some ⟨[i64 (i:Int)],3,1,0,true⟩/\ ∀id k,M.get id=some k->id≠b->M'.get id=some k:=by
 obtain⟨w1,N2,M3,p4,l5,e6,E7,c1,F9⟩:=aH (x:=((n,ad),(i:Int))) hM Pq (⟨⟨_,_,rfl,⟨_,rfl,AP.Ext (R:=(eJ 108)) hadj X0⟩,rfl⟩,hok⟩)
 have b6:=E7.old gb
 have b5:w1=(.bool (jB ad (i:Int))):=F9
 subst b5
 have b3:=X0.trans E7
 obtain⟨a5,a4,a6,a7,b7,a2,a9⟩:=bG c1 ⟨[i64 (i:Int)],3,1,0,true⟩
 have b8:=a2.old b6
 have b2:=b3.trans a2
 obtain⟨b23,a1,a0,a8,b9,a3,b0⟩:=bG a9 ⟨[i64 (i:Int)],3,1,0,true⟩
 have b1:M0.next<=b23:=by rw[<-a0];exact b2.next
 have c0:=a3.old b8
 have b4:=b2.trans a3
 have hkp: ∀id k,M.get id=some k->id≠b->a1.get id=some k:=fun id k g h_b=>by
  have g:=E7.old g
  have g:=a2.old g
  have g:=a3.old g
  exact g
 obtain⟨T1,h1,h2⟩:=Rd.told (tb:=[]) (n:=60) (F:=[aM 2,aU 8 (.agg ⟨[i64 (n:Int),pt ab 0]⟩),bL 12 (.bool (jB ad (i:Int))) M3,aM 15,bL 21 (aD a5 0 1 2) a4,.at 23 (1,.val (aD b23 0 1 1),a1)]) aJ aI (fun B=>lO (gF 76 Q76 (gQ _))) (fun _ _=>rfl) (by kernel_rfl) (hk (bT cc0) (hq (qL 77 b 0 M (.agg ⟨[i64 (n:Int),pt ab 0]⟩)) (lA ⟨La,Di⟩ gb rfl) (hq (qC 76 [.agg ⟨[i64 (n:Int),pt ab 0]⟩,i64 (i:Int)] M (.bool (jB ad (i:Int))) M3) (aN rfl p4 l5 e6) (hk (bT (x:=!(jB ad (i:Int))) (by rw[cc1];rfl)) (hq (.eq (bE Try.prog 22 1 [(0,(i64 (i:Int)))] M3) (1,.val (aD a5 0 1 2),a4)) (bZ (by rw[<-a6,<-a7];kernel_rfl) Nat.one_ne_zero) (hq (.q (.append [22,22] cI (aD a5 0 1 2) a4) (1,.val (aD b23 0 1 1),a1)) (jD (by rw[<-a0,<-a8];exact append_nil (w:=1) (by kernel_rfl) (by kernel_rfl) (y:=8) (by kernel_rfl) (by decide) (by decide) b7 rfl rfl rfl) Nat.one_ne_zero) hn))))))
 exact⟨T1,a1,b23,h1,h2,b4,b0,c0,b1,b9,hkp⟩
theorem r24G(b n ab i:Nat)(ad:eL)(r k:Nat)(cr:List Value){M M0:aA}(hM:aB M)(X0:Ext M0 M)(gb:M.get b=some ⟨[i64 n,pt ab 0],77,2,0,true⟩)(hadj:eJ 108 ad (pt ab 0) M0)(hok:pY ad)(hr:M0.next<=r)(gr:M.get r=some ⟨cr,3,1,0,true⟩)(hbr:b≠r)(cc0:(decide ((i:Int)<(n:Int)))=true)(cc1:(jB ad (i:Int))=false)(hg0:k<1073741824/\(cr).length=k*1): ∃T1 M' b27,Rd Try.prog [] (q53.loopAt 0) Try.f53.ntmps (fr [(1,(pt b 0)),(3,(aD r 0 k k)),(6,(i64 (n:Int))),(7,(i64 (i:Int)))]) M .normal T1 M'/\ [1,3,6,7].map T1.get= [some (pt b 0),some (aD b27 0 (k+1) (k+1)),some (i64 (n:Int)),some (i64 (IntKind.wrap .i64 ((i:Int)+(1:Int))))]/\Ext M0 M'/\aB M'/\M'.get b=some ⟨[i64 (n:Int),pt ab 0],77,2,0,true⟩/\M0.next<=b27/\M'.get b27=some ⟨cr++ [i64 (i:Int)],3,1,0,true⟩/\ ∀id k,M.get id=some k->id≠b->id≠r->M'.get id=some k:=by
 obtain⟨w1,N2,M3,p4,l5,e6,E7,c3,F9⟩:=aH (x:=((n,ad),(i:Int))) hM Pq (⟨⟨_,_,rfl,⟨_,rfl,AP.Ext (R:=(eJ 108)) hadj X0⟩,rfl⟩,hok⟩)
 have b7:=E7.old gb
 have b8:=E7.old gr
 have b6:w1=(.bool (jB ad (i:Int))):=F9
 subst b6
 have b4:=X0.trans E7
 obtain⟨a5,a4,a6,a7,b9,a2,a9⟩:=bG c3 ⟨[i64 (i:Int)],3,1,0,true⟩
 have b3:=a2.old b7
 have c0:=a2.old b8
 have b2:=b4.trans a2
 obtain⟨b27,a3,a0,a8,c1,b5,b0,a1⟩:=rZ b2 hr a9 ⟨cr++ [i64 (i:Int)],3,1,0,true⟩
 have b1:M0.next<=b27:=by rw[<-a0];exact b2.next
 have c2:=(a1 _ hbr (aA.lt_of_get b3)).trans b3
 have hkp: ∀id k,M.get id=some k->id≠b->id≠r->a3.get id=some k:=fun id k g h_b h_r=>by
  have g:=E7.old g
  have g:=a2.old g
  have g:=(a1 id h_r (aA.lt_of_get g)).trans g
  exact g
 obtain⟨T1,h1,h2⟩:=Rd.told (tb:=[]) (n:=60) (F:=[aM 2,aU 8 (.agg ⟨[i64 (n:Int),pt ab 0]⟩),bL 12 (.bool (jB ad (i:Int))) M3,aM 15,bL 21 (aD a5 0 1 2) a4,.at 23 (2,.val (aD b27 0 (k+1) (k+1)),a3)]) aJ aI (fun B=>lO (gF 76 Q76 (gQ _))) (fun _ _=>rfl) (by kernel_rfl) (hk (bT cc0) (hq (qL 77 b 0 M (.agg ⟨[i64 (n:Int),pt ab 0]⟩)) (lA ⟨La,Di⟩ gb rfl) (hq (qC 76 [.agg ⟨[i64 (n:Int),pt ab 0]⟩,i64 (i:Int)] M (.bool (jB ad (i:Int))) M3) (aN rfl p4 l5 e6) (hk (bT (x:=!(jB ad (i:Int))) (by rw[cc1];rfl)) (hq (.eq (bE Try.prog 22 1 [(0,(i64 (i:Int)))] M3) (1,.val (aD a5 0 1 2),a4)) (bZ (by rw[<-a6,<-a7];kernel_rfl) Nat.one_ne_zero) (hq (.q (.append [22,22] (aD r 0 k k) (aD a5 0 1 2) a4) (2,.val (aD b27 0 (k+1) (k+1)),a3)) (jD (by rw[<-a0,<-a8];exact jJ (w:=1) (by kernel_rfl) (by kernel_rfl) (by kernel_rfl) (y:=8) (by kernel_rfl) (by decide) (by decide) hg0.1 b9 rfl rfl rfl c0 hg0.2 rfl rfl rfl rfl) (Nat.succ_ne_zero _)) hn))))))
 exact⟨T1,a3,b27,h1,h2,b5,b0,c2,b1,c1,hkp⟩
theorem Vt{b n ab:Nat}{ad:eL}{M:aA}(hM:aB M)(gb:M.get b=some ⟨[i64 n,pt ab 0],77,2,0,true⟩)(hadj:eJ 108 ad (pt ab 0) M)(hok:pY ad)(hn:n<=60):
  ∃S M',bJ Try.prog [] (q53.loopAt 0) Try.f53.ntmps (fr [(1,pt b 0),(3,cI),(6,i64 n),(7,i64 ((0:Nat):Int))]) M (.exit 0) (fr [(3,S)]) M'/\Ext M M'/\aB M'/\oN M M' S (dF ad n):=by
 have hb:=aA.lt_of_get gb
 obtain⟨S,M',h1,h2,h3,_,h4⟩:=bJ.for (P:=Try.prog) (GL:= []) (b:=q53.loopAt 0) (nt:=Try.f53.ntmps) (id:=0) (σ:=Value) (n:=n) (Inv:=fun i S M1=>Ext M M1/\aB M1/\M1.get b=some ⟨[i64 n,pt ab 0],77,2,0,true⟩/\oN M M1 S (dF ad i))
  (F:=fun i S=> [(1,pt b 0),(3,S),(6,i64 n),(7,i64 ((i:Nat):Int))])
  (O:=fun S=> [(3,S)])
  (by
   rintro i S M1 hi ⟨X1,a0,a1,hA⟩
   cases hl:jB ad (i:Int) with
   |true=>
    obtain⟨T1,M2,h1,h2,h3,h4,h5,h6⟩:=r24L b n ab i S ad a0 X1 a1 hadj hok (decide_eq_true (by omega)) hl
    rw[aY (by omega)] at h2
    refine⟨S,T1,M2,h1,h2,h3,h4,h5,?_⟩
    rw[tV,hl,if_pos rfl,List.append_nil]
    exact hA.keep fun id k hid hg=>h6 id k hg (by omega)
   |false=>
    rw[tV,hl,if_neg (by decide)]
    have hlen:=qX ad i
    rcases hA with⟨rfl,h0⟩|⟨r,rfl,h0,hr,hg⟩
    ·obtain⟨T1,M2,b2,h1,h2,h3,h4,h5,h6,h7,_⟩:=r24N b n ab i ad a0 X1 a1 hadj hok (decide_eq_true (by omega)) hl
     rw[aY (by omega)] at h2
     exact⟨_,T1,M2,h1,h2,h3,h4,h5,.inr ⟨b2,by rw[h0];rfl,by simp,h6,by rw[h7,h0];rfl⟩⟩
    ·obtain⟨T1,M2,b2,h1,h2,h3,h4,h5,h6,h7,_⟩:=r24G b n ab i ad r (dF ad i).length _ a0 X1 a1 hadj hok hr hg (by omega) (decide_eq_true (by omega)) hl ⟨by omega,by simp⟩
     rw[aY (by omega)] at h2
     exact⟨_,T1,M2,h1,h2,h3,h4,h5,.inr ⟨b2,by rw[List.length_append];rfl,by simp,h6,by rw[h7,List.map_append];rfl⟩⟩)
  (by
   rintro S M1 ⟨X1,a0,_⟩
   exact r24x b n n S (M:=M1) (decide_eq_false (by omega)))
  n 0 (by omega) (s:=cI) (M:=M) ⟨Ext.refl M,hM,gb,.inl ⟨rfl,rfl⟩⟩
 exact⟨S,M',h1,h2,h3,h4⟩
theorem rK53:Try.f53.results= #[.tmp 2]:=by kernel_rfl
theorem w24(n ab:Nat)(ad:eL){M:aA}(hM:aB M)(hadj:eJ 108 ad (pt ab 0) M)(hok:pY ad)(hn0:n<=60): ∃v_ M',Ev Try.prog [] 53 [.agg ⟨[i64 (n:Int),pt ab 0]⟩] M v_ M'/\Ext M M'/\aB M'/\fG aP (dF ad n) M.next v_ M':=by
 obtain⟨b1,M2,a7,a8,g5,E6,a9⟩:=bG hM ⟨[i64 (n:Int),pt ab 0],77,2,0,true⟩
 have X9:=(Ext.refl M).trans E6
 obtain⟨a1,a0,a2,a5,a3,a4⟩:=Vt a9 g5 (AP.Ext (R:=(eJ 108)) hadj X9) hok hn0
 have a6:=X9.trans a5
 exact⟨a1,a0,Ev.told_tmp (tb:=[0]) (n:=60) (F:=[bL 1 (pt b1 0) M2,aU 9 (i64 (n:Int)),.blk 12 [1,3,6,7] .normal (fr [(3,a1)]) a0]) aJ aI Try.func53 Xp (by kernel_rfl) rK53 (fun B=>zN (gQ B) 0 a2) (fun _ h=>cF h) (by kernel_rfl) (hq (.eq (fE Try.prog 77 (.agg ⟨[i64 (n:Int),pt ab 0]⟩) M) (1,.val (pt b1 0),M2)) (bZ (by rw[<-a7,<-a8];kernel_rfl) Nat.one_ne_zero) (hk (lC (o:=0) cO g5 rfl) (hq (.blk 0 (.loop (q53.loopAt 0)) Try.f53.ntmps [1,3,6,7] [some (pt b1 0),some cI,some (i64 (n:Int)),some (i64 0)] M2 .normal (fr [(3,a1)]) a0) (fH rfl) hn))),a6,a3,oN.new a4 (Nat.le_trans (qX ad n) (by omega)) (X9).next⟩
abbrev Q53:=FC (iG (tL (mD 108)) fun x=>pY x.2/\x.1<=60) (fG aP) (fun x=>dF x.2 x.1)
theorem aAd{x:Nat×eL}{lv:List Value}{M:aA}(hM:aB M)(h:(iG (tL (mD 108)) fun x:Nat×eL=>pY x.2/\x.1<=60) x lv M): ∃v M',lQ Try.prog [] 53 Q53 lv M v M':=by
 refine FC.con h ?_
 obtain⟨⟨g0,rfl,k0⟩,hok,hn⟩:=h
 obtain⟨n,ad⟩:=x
 obtain⟨p,rfl,hadj⟩:=k0
 obtain⟨ab,o,i_,t,s,rfl,gab,hout,hinn,hto,hset⟩:=id hadj
 obtain⟨v',M',h1,h2,_,h3⟩:=w24 n ab ad hM hadj hok hn
 exact⟨v',M',h1,h2,h3⟩
theorem r31(C n ab bb o m c i:Nat)(x z:Int)(cc:List Value)(ad:eL){M M0:aA}(hM:aB M)(X0:Ext M0 M)(hC:M0.next<=C)(gC:M.get C=some ⟨cc,3,1,0,true⟩)(hadj:eJ 108 ad (pt ab 0) M0)(hok:pY ad)(cc0:(decide ((i:Int)<(m:Int)))=true)(hld0:aX Try.prog 3 ⟨bb,o+((i:Int):Int).toNat*1,none⟩ M0=some (i64 x))(hi1:0<=(((dE ad x:Nat):Int):Int)/\(((dE ad x:Nat):Int):Int)<801)(hc2:(cc)[0+(((dE ad x:Nat):Int):Int).toNat*1]?=some (i64 z))(hof3:0+(((dE ad x:Nat):Int):Int).toNat*1+1<=(cc).length): ∃T1 M',Rd Try.prog [] (q75.loopAt 0) Try.f75.ntmps (fr [(1,(.func (.func 54) ⟨[.agg ⟨[i64 (n:Int),pt ab 0]⟩]⟩ ⟨[]⟩)),(5,(aD C 0 801 802)),(9,(aD bb o m c)),(10,(i64 (m:Int))),(11,(i64 (i:Int)))]) M .normal T1 M'/\ [1,5,9,10,11].map T1.get= [some (.func (.func 54) ⟨[.agg ⟨[i64 (n:Int),pt ab 0]⟩]⟩ ⟨[]⟩),some (aD C 0 801 802),some (aD bb o m c),some (i64 (m:Int)),some (i64 (IntKind.wrap .i64 ((i:Int)+(1:Int))))]/\Ext M0 M'/\aB M'/\M'.get C=some ⟨splice cc (0+(((dE ad x:Nat):Int):Int).toNat*1) [i64 (IntKind.wrap .i64 (z+(1:Int)))],3,1,0,true⟩/\ ∀id k,M.get id=some k->id≠C->M'.get id=some k:=by
 obtain⟨w1,N2,M3,p4,l5,e6,E7,a8,F9⟩:=aH (x:=((n,ad),x)) hM Ud (⟨⟨_,_,rfl,⟨_,rfl,AP.Ext (R:=(eJ 108)) hadj X0⟩,rfl⟩,hok⟩)
 have a4:=E7.old gC
 have a7:w1=(i64 ((dE ad x:Nat):Int)):=F9
 subst a7
 have a5:=X0.trans E7
 obtain⟨a0,q14,a1,a3,a6,a2,a9⟩:=bH (o:=0+(((dE ad x:Nat):Int):Int).toNat*1) (v:=(i64 (IntKind.wrap .i64 (z+(1:Int))))) (new:=splice cc (0+(((dE ad x:Nat):Int):Int).toNat*1) [i64 (IntKind.wrap .i64 (z+(1:Int)))]) a5 hC a8 He a4 rfl rfl (Nat.zero_le _) hof3 rfl
 replace a1:a0.get C=some ⟨splice cc (0+(((dE ad x:Nat):Int):Int).toNat*1) [i64 (IntKind.wrap .i64 (z+(1:Int)))],3,1,0,true⟩:=a1
 have hkp: ∀id k,M.get id=some k->id≠C->a0.get id=some k:=fun id k g h_C=>by
  have g:=E7.old g
  have g:=((fun id h _=>a3 id h) id h_C (aA.lt_of_get g)).trans g
  exact g
 obtain⟨T1,h1,h2⟩:=Rd.told (tb:=[]) (n:=60) (F:=[aM 2,aM 4,aU 6 (i64 x),bL 16 (i64 ((dE ad x:Nat):Int)) M3,aM 18,aU 20 (i64 z),aM 24,lP 26 a0]) aJ aI (fun B=>lO (gF 54 Q54 (gQ _))) (fun _ _=>rfl) (by kernel_rfl) (hk (bT cc0) (hk (qI (i:Int) m (by omega) (by simp at cc0;omega)) (hk (lD (aE X0 hld0)) (hq (qC 54 [.agg ⟨[i64 (n:Int),pt ab 0]⟩,i64 x] M (i64 ((dE ad x:Nat):Int)) M3) (aN rfl p4 l5 e6) (hk (qI ((dE ad x:Nat):Int) 801 hi1.1 hi1.2) (hq (qL 3 C (0+(((dE ad x:Nat):Int):Int).toNat*1) M3 (i64 z)) (iP (bW (a:=⟨C,0+(((dE ad x:Nat):Int):Int).toNat*1,none⟩) cO a4 hc2)) (hk (qI ((dE ad x:Nat):Int) 801 hi1.1 hi1.2) (hq (qS 3 C (0+(((dE ad x:Nat):Int):Int).toNat*1) (i64 (IntKind.wrap .i64 (z+(1:Int)))) M3 a0) (eF q14) hn))))))))
 exact⟨T1,a0,h1,h2,a6,a2,a1,hkp⟩
theorem r31x(C n ab:Nat)(a:Option Addr)(m c i:Nat){M:aA}(cc0:(decide ((i:Int)<(m:Int)))=false): ∃T1,Rd Try.prog [] (q75.loopAt 0) Try.f75.ntmps (fr [(1,(.func (.func 54) ⟨[.agg ⟨[i64 (n:Int),pt ab 0]⟩]⟩ ⟨[]⟩)),(5,(aD C 0 801 802)),(9,(.slice a m c)),(10,(i64 (m:Int))),(11,(i64 (i:Int)))]) M (.exit 0) T1 M/\ [5].map T1.get= [some (aD C 0 801 802)]:=by
 exact Rd.told (tb:=[]) (n:=60) (F:=[aO 2]) aJ aI (aG Try.prog) (fun _ _=>rfl) (by kernel_rfl) (hk (bF cc0) hn)
theorem Vw{a:Option Addr}{c C n ab:Nat}{ad:eL}{vs:List Int}{M0 M:aA}(hM:aB M)(X:Ext M0 M)(hs:aP vs (.slice a vs.length c) M0)(hadj:eJ 108 ad (pt ab 0) M0)(hok:pY ad)(hl:vs.length<=60)(hC:M0.next<=C)(gC:M.get C=some ⟨List.replicate 801 (i64 0),3,1,0,true⟩):
  ∃M',bJ Try.prog [] (q75.loopAt 0) Try.f75.ntmps (fr [(1,(.func (.func 54) ⟨[.agg ⟨[i64 (n:Int),pt ab 0]⟩]⟩ ⟨[]⟩)),(5,aD C 0 801 802),(9,.slice a vs.length c),(10,i64 vs.length),(11,i64 ((0:Nat):Int))]) M (.exit 0) (fr [(5,aD C 0 801 802)]) M'/\Ext M0 M'/\aB M'/\M'.get C=some ⟨gM (gX ad vs) vs.length 801,3,1,0,true⟩:=by
 obtain⟨_,M',h1,h2,h3,h4⟩:=bJ.for (P:=Try.prog) (GL:= []) (b:=q75.loopAt 0) (nt:=Try.f75.ntmps) (id:=0) (σ:=Unit) (n:=vs.length) (Inv:=fun i _ M1=>Ext M0 M1/\aB M1/\M1.get C=some ⟨gM (gX ad vs) i 801,3,1,0,true⟩)
  (F:=fun i _=> [(1,(.func (.func 54) ⟨[.agg ⟨[i64 (n:Int),pt ab 0]⟩]⟩ ⟨[]⟩)),(5,aD C 0 801 802),(9,.slice a vs.length c),(10,i64 vs.length),(11,i64 ((i:Nat):Int))])
  (O:=fun _=> [(5,aD C 0 801 802)])
  (by
   rintro i _ M1 hi ⟨X1,a0,a1⟩
   obtain⟨bb,o,rfl,_⟩:=cD hs (by omega)
   have ht:vs[i]?=some vs[i]:=List.getElem?_eq_getElem hi
   have hk:dE ad vs[i]=gX ad vs i:=by unfold gX;rw[ht];rfl
   have hle:=rX hok vs[i]
   have e0:0+(((dE ad vs[i]:Nat):Int):Int).toNat*1=gX ad vs i:=by rw[hk];simp
   obtain⟨T1,M2,h1,h2,h3,h4,h5,_⟩:=r31 C n ab bb o vs.length c i vs[i] ((iH (gX ad vs) i (gX ad vs i):Nat):Int) _ ad a0 X1 hC a1 hadj hok (decide_eq_true (by omega)) (iC (P:=Try.prog) (ty:=3) hs ht rfl cO) (by omega) (by rw[e0];exact iI _ _ (by omega)) (by rw[e0,iJ];omega)
   rw[aY (by omega)] at h2
   have hc:=Aq (gX ad vs) i (gX ad vs i)
   rw[e0,aY (by omega),tQ _ (by omega)] at h5
   exact⟨(),T1,M2,h1,h2,h3,h4,h5⟩)
  (by
   rintro _ M1 ⟨X1,a0,a1⟩
   exact r31x C n ab a vs.length c vs.length (M:=M1) (decide_eq_false (by omega)))
  vs.length 0 (by omega) (s:=()) (M:=M) ⟨X,hM,by rw[tR];exact gC⟩
 exact⟨M',h1,h2,h3,h4⟩
theorem rK75:Try.f75.results= #[.tmp 4]:=by kernel_rfl
theorem w31(n ab:Nat)(ad:eL)(av:Option Addr)(cv:Nat)(vs:List Int){M:aA}(hM:aB M)(hvs:aP vs (.slice av vs.length cv) M)(hadj:eJ 108 ad (pt ab 0) M)(hok:pY ad)(hl60:vs.length<=60): ∃v_ M',Ev Try.prog [] 75 [.slice av vs.length cv,.func (.func 54) ⟨[.agg ⟨[i64 (n:Int),pt ab 0]⟩]⟩ ⟨[]⟩] M v_ M'/\Ext M M'/\aB M'/\fG tW (gH ad vs) M.next v_ M':=by
 obtain⟨b1,M2,a4,a5,g5,E6,a7⟩:=yW (P:=Try.prog) (t:=22) (elem:=3) (z:=(i64 0)) (n:=801) hM (by kernel_rfl) (by kernel_rfl) (by decide)
 have a2:M.next<=b1:=by rw[<-a4];exact(Ext.refl M).next
 have X8:=(Ext.refl M).trans E6
 obtain⟨M9,a0,a3,a1,a6⟩:=Vw a7 X8 hvs hadj hok hl60 a2 g5
 exact⟨aD b1 0 801 802,M9,Ev.told_tmp (tb:=[0]) (n:=60) (F:=[bL 3 (aD b1 0 801 802) M2,aM 9,.blk 12 [1,5,9,10,11] .normal (fr [(5,(aD b1 0 801 802))]) M9]) aJ aI Try.func75 Xy (by kernel_rfl) rK75 (fun B=>zN (gQ B) 0 a0) (fun _ h=>cF h) (by kernel_rfl) (hq (.eq (cB Try.prog 22 (i64 801) (i64 801) M) (1,.val (aD b1 0 801 802),M2)) (bZ a5 Nat.one_ne_zero) (hk (lN hvs.ln) (hq (.blk 0 (.loop (q75.loopAt 0)) Try.f75.ntmps [1,5,9,10,11] [some (.func (.func 54) ⟨[.agg ⟨[i64 (n:Int),pt ab 0]⟩]⟩ ⟨[]⟩),some (aD b1 0 801 802),some (.slice av vs.length cv),some (i64 (vs.length:Int)),some (i64 0)] M2 .normal (fr [(5,(aD b1 0 801 802))]) M9) (fH rfl) hn))),a3,a1,aK.of_blk' (b:=b1) (w:=1) (g:=Lg) (iZ a2 a6) (by simp [gH]) (by simp [gH,gM,vX,List.map_map,Function.comp_def]) (fun _ _=>rfl) (by simp [gH])⟩
abbrev Q75:=FC (iG (mG aP (Cf 54 108)) fun x=>pY x.2.2/\x.1.length<=60) (fG tW) (fun x=>gH x.2.2 x.1)
theorem aAg{x:List Int×Nat×eL}{lv:List Value}{M:aA}(hM:aB M)(h:(iG (mG aP (Cf 54 108)) fun x:List Int×Nat×eL=>pY x.2.2/\x.1.length<=60) x lv M): ∃v M',lQ Try.prog [] 75 Q75 lv M v M':=by
 refine FC.con h ?_
 obtain⟨⟨g0,g1,rfl,k0,k1⟩,hok,hl⟩:=h
 obtain⟨vs,n,ad⟩:=x
 obtain⟨av,cv,rfl⟩:=aK.form k0
 obtain⟨s,rfl,p,rfl,hadj⟩:=k1
 obtain⟨ab,o,i_,t,s,rfl,gab,hout,hinn,hto,hset⟩:=id hadj
 obtain⟨v',M',h1,h2,_,h3⟩:=w31 n ab ad av cv vs hM k0 hadj hok hl
 exact⟨v',M',h1,h2,h3⟩
theorem r30(D E bb o m c i k q z:Nat)(cd ce:List Value){M M0:aA}(hM:aB M)(X0:Ext M0 M)(hE:M0.next<=E)(gD:M.get D=some ⟨cd,3,1,0,true⟩)(gE:M.get E=some ⟨ce,22,1,0,true⟩)(dDE:D≠E)(cc0:(decide ((i:Int)<(m:Int)))=true)(hld0:aX Try.prog 3 ⟨bb,o+((i:Int):Int).toNat*1,none⟩ M0=some (i64 (z:Int)))(hs1:q<=(q+z)/\(q+z)<=k)(he2:(IntKind.wrap .i64 ((q:Int)+(z:Int)))=(((q+z):Nat):Int))(hof3:0+((i:Int):Int).toNat*1+1<=(ce).length): ∃T1 M',Rd Try.prog [] (q74.loopAt 0) Try.f74.ntmps (fr [(0,(aD D 0 k (k+1))),(5,(aD E 0 m (m+1))),(6,(i64 (q:Int))),(12,(aD bb o m c)),(13,(i64 (m:Int))),(14,(i64 (i:Int)))]) M .normal T1 M'/\ [0,5,6,12,13,14].map T1.get= [some (aD D 0 k (k+1)),some (aD E 0 m (m+1)),some (i64 (IntKind.wrap .i64 ((q:Int)+(z:Int)))),some (aD bb o m c),some (i64 (m:Int)),some (i64 (IntKind.wrap .i64 ((i:Int)+(1:Int))))]/\Ext M0 M'/\aB M'/\M'.get D=some ⟨cd,3,1,0,true⟩/\M'.get E=some ⟨splice ce (0+((i:Int):Int).toNat*1) [aD D (0+q) 0 ((q+z)-q+1)],22,1,0,true⟩/\ ∀id k,M.get id=some k->id≠D->id≠E->M'.get id=some k:=by
 obtain⟨M1,q2,g3,a0,X5,a1,a2⟩:=bH (o:=0+((i:Int):Int).toNat*1) (v:=(aD D (0+q) 0 ((q+z)-q+1))) (new:=splice ce (0+((i:Int):Int).toNat*1) [aD D (0+q) 0 ((q+z)-q+1)]) X0 hE hM Lb gE rfl rfl (Nat.zero_le _) hof3 rfl
 replace g3:M1.get E=some ⟨splice ce (0+((i:Int):Int).toNat*1) [aD D (0+q) 0 ((q+z)-q+1)],22,1,0,true⟩:=g3
 have g8:=(a0 _ dDE).trans gD
 have hkp: ∀id k,M.get id=some k->id≠D->id≠E->M1.get id=some k:=fun id k g h_D h_E=>by
  have g:=((fun id h _=>a0 id h) id h_E (aA.lt_of_get g)).trans g
  exact g
 obtain⟨T1,h1,h2⟩:=Rd.told (tb:=[]) (n:=60) (F:=[aM 2,aM 6,aU 8 (i64 (z:Int)),aU 30 (aD D (0+q) 0 ((q+z)-q+1)),aM 32,lP 34 M1]) aJ aI (aG Try.prog) (fun _ _=>rfl) (by kernel_rfl) (hk (bT cc0) (hk (qI (i:Int) m (by omega) (by simp at cc0;omega)) (hk (lD (aE X0 hld0)) (hq (.q (.slice 22 (aD D 0 k (k+1)) (some (i64 (q:Int))) (some (i64 (q:Int))) (some (i64 (IntKind.wrap .i64 ((q:Int)+(z:Int))))) M) (1,.val (aD D (0+q) 0 ((q+z)-q+1)),Je)) (⟨_,rfl,(by rw[he2];exact Ju (by kernel_rfl) (elem:=3) (by kernel_rfl) gD rfl hs1.1 hs1.2)⟩) (hk (qI (i:Int) m (by omega) (by simp at cc0;omega)) (hq (qS 22 E (0+((i:Int):Int).toNat*1) (aD D (0+q) 0 ((q+z)-q+1)) M M1) (eF q2) hn))))))
 exact⟨T1,M1,h1,h2,X5,a1,g8,g3,hkp⟩
theorem r30x(D E:Nat)(a:Option Addr)(m c i k q:Nat){M:aA}(cc0:(decide ((i:Int)<(m:Int)))=false): ∃T1,Rd Try.prog [] (q74.loopAt 0) Try.f74.ntmps (fr [(0,(aD D 0 k (k+1))),(5,(aD E 0 m (m+1))),(6,(i64 (q:Int))),(12,(.slice a m c)),(13,(i64 (m:Int))),(14,(i64 (i:Int)))]) M (.exit 0) T1 M/\ [5].map T1.get= [some (aD E 0 m (m+1))]:=by
 exact Rd.told (tb:=[]) (n:=60) (F:=[aO 2]) aJ aI (aG Try.prog) (fun _ _=>rfl) (by kernel_rfl) (hk (bF cc0) hn)
theorem Vv{a:Option Addr}{c D E k:Nat}{sz:List Nat}{cd:List Value}{M0 M:aA}(hM:aB M)(X:Ext M0 M)(hs:tW sz (.slice a sz.length c) M0)(hl:sz.length<=801)(hk:dN (nV sz) sz.length<=k)(hk60:k<=60)(hE:M0.next<=E)(gD:M.get D=some ⟨cd,3,1,0,true⟩)(gE:M.get E=some ⟨List.replicate sz.length cI,22,1,0,true⟩)(dDE:D≠E):
  ∃M',bJ Try.prog [] (q74.loopAt 0) Try.f74.ntmps (fr [(0,aD D 0 k (k+1)),(5,aD E 0 sz.length (sz.length+1)),(6,i64 ((0:Nat):Int)),(12,.slice a sz.length c),(13,i64 sz.length),(14,i64 ((0:Nat):Int))]) M (.exit 0) (fr [(5,aD E 0 sz.length (sz.length+1))]) M'/\Ext M0 M'/\aB M'/\M'.get E=some ⟨dG D (nV sz) (fun _=>0) sz.length,22,1,0,true⟩:=by
 have hxl:=fO D (nV sz) (fun _=>0) sz.length
 obtain⟨_,M',h1,h2,h3,_,h6⟩:=bJ.for (P:=Try.prog) (GL:= []) (b:=q74.loopAt 0) (nt:=Try.f74.ntmps) (id:=0) (σ:=Unit) (n:=sz.length) (Inv:=fun i _ M1=>Ext M0 M1/\aB M1/\M1.get D=some ⟨cd,3,1,0,true⟩/\M1.get E=some ⟨rI (dG D (nV sz) (fun _=>0) sz.length) i cI,22,1,0,true⟩)
  (F:=fun i _=> [(0,aD D 0 k (k+1)),(5,aD E 0 sz.length (sz.length+1)),(6,i64 ((dN (nV sz) i:Nat):Int)),(12,.slice a sz.length c),(13,i64 sz.length),(14,i64 ((i:Nat):Int))])
  (O:=fun _=> [(5,aD E 0 sz.length (sz.length+1))])
  (by
   rintro i _ M1 hi ⟨X1,a0,a1,a2⟩
   have hs':aP (sz.map fun k=>((k:Nat):Int)) (.slice a sz.length c) M0:=hs
   obtain⟨bb,o,rfl,_⟩:=cD hs' (by simp;omega)
   have hnx:=nM (nV sz) hi
   have hz:(sz.map fun k=>((k:Nat):Int))[i]?=some ((nV sz i:Nat):Int):=by simp [nV,hi]
   have e0:0+((i:Int):Int).toNat*1=i:=by simp
   have ew:=wU (i:=dN (nV sz) i) (j:=nV sz i) (by omega)
   obtain⟨T1,M2,h1,h2,h3,h4,h6,h7,_⟩:=r30 D E bb o sz.length c i k (dN (nV sz) i) (nV sz i) _ _ a0 X1 hE a1 a2 dDE (decide_eq_true (by omega)) (iC (P:=Try.prog) (ty:=3) hs' hz rfl cO) ⟨by omega,by omega⟩ ew (by rw[e0,sU _ _ (by omega)];omega)
   rw[aY (by omega),ew] at h2
   have hst:=uR (z:=cI) (gP D (nV sz) (fun _=>0) hi)
   simp only [yO] at hst
   rw[e0,Nat.zero_add,Nat.add_sub_cancel_left,hst] at h7
   exact⟨(),T1,M2,h1,h2,h3,h4,h6,h7⟩)
  (by
   rintro _ M1 ⟨X1,a0,_⟩
   exact r30x D E a sz.length c sz.length k _ (M:=M1) (decide_eq_false (by omega)))
  sz.length 0 (by omega) (s:=()) (M:=M) ⟨X,hM,gD,by rw[uS,hxl];exact gE⟩
 refine⟨M',h1,h2,h3,?_⟩
 have:=xJ (dG D (nV sz) (fun _=>0) sz.length) cI
 rw[hxl] at this
 rw[this] at h6
 exact h6
theorem rK74:Try.f74.results= #[.tmp 4]:=by kernel_rfl
theorem w30(D k:Nat)(cd:List Value)(az:Option Addr)(cz:Nat)(sz:List Nat){M:aA}(hM:aB M)(gD:M.get D=some ⟨cd,3,1,0,true⟩)(hsz:tW sz (.slice az sz.length cz) M)(hsl:sz.length<=801)(hkk:dN (nV sz) sz.length<=k)(hk60:k<=60): ∃v_ M',Ev Try.prog [] 74 [aD D 0 k (k+1),.slice az sz.length cz] M v_ M'/\Ext M M'/\aB M'/\Lw ((D,k),sz) M.next v_ M':=by
 obtain⟨b1,M2,a6,a7,g5,E6,a9⟩:=yW (P:=Try.prog) (t:=29) (elem:=22) (z:=cI) (n:=sz.length) hM (by kernel_rfl) (by kernel_rfl) (by omega)
 have a4:M.next<=b1:=by rw[<-a6];exact(Ext.refl M).next
 have a1:D≠b1:=by have:=aA.lt_of_get gD;omega
 have g8:=E6.old gD
 have X9:=(Ext.refl M).trans E6
 obtain⟨a0,a2,a5,a3,a8⟩:=Vv a9 X9 hsz hsl hkk hk60 a4 g8 g5 a1
 exact⟨aD b1 0 sz.length (sz.length+1),a0,Ev.told_tmp (tb:=[0]) (n:=60) (F:=[aM 5,bL 7 (aD b1 0 sz.length (sz.length+1)) M2,aM 15,.blk 18 [0,5,6,12,13,14] .normal (fr [(5,(aD b1 0 sz.length (sz.length+1)))]) a0]) aJ aI Try.func74 Xx (by kernel_rfl) rK74 (fun B=>zN (gQ B) 0 a2) (fun _ h=>cF h) (by kernel_rfl) (hq (.ln az sz.length cz) (lN (aK.ln (l:=sz.map fun k=>((k:Nat):Int)) hsz)) (hq (.eq (cB Try.prog 29 (i64 (sz.length:Int)) (i64 (sz.length:Int)) M) (1,.val (aD b1 0 sz.length (sz.length+1)),M2)) (bZ a7 Nat.one_ne_zero) (hq (.ln az sz.length cz) (lN (aK.ln (l:=sz.map fun k=>((k:Nat):Int)) hsz)) (hq (.blk 0 (.loop (q74.loopAt 0)) Try.f74.ntmps [0,5,6,12,13,14] [some (aD D 0 k (k+1)),some (aD b1 0 sz.length (sz.length+1)),some (i64 0),some (.slice az sz.length cz),some (i64 (sz.length:Int)),some (i64 0)] M2 .normal (fr [(5,(aD b1 0 sz.length (sz.length+1)))]) a0) (fH rfl) hn)))),a5,a3,⟨b1,rfl,a4,a8⟩⟩
abbrev Q74:=FC (iG (mG Td tW) fun x=>x.2.length<=801/\dN (nV x.2) x.2.length<=x.1.2/\x.1.2<=60) Lw id
theorem Ug{x:(Nat×Nat)×List Nat}{lv:List Value}{M:aA}(hM:aB M)(h:(iG (mG Td tW) fun x:(Nat×Nat)×List Nat=>x.2.length<=801/\dN (nV x.2) x.2.length<=x.1.2/\x.1.2<=60) x lv M): ∃v M',lQ Try.prog [] 74 Q74 lv M v M':=by
 refine FC.con h ?_
 obtain⟨⟨g0,g1,rfl,k0,k1⟩,h1,h2,h3⟩:=h
 obtain⟨⟨D,k⟩,sz⟩:=x
 obtain⟨rfl,cd,gD⟩:=k0
 obtain⟨az,cz,e⟩:=aK.form (l:=sz.map fun k=>((k:Nat):Int)) k1
 rw[List.length_map] at e
 subst e
 obtain⟨v',M',q1,q2,_,q3⟩:=w30 D k cd az cz sz hM gD k1 h1 h2 h3
 exact⟨v',M',q1,q2,q3⟩
end Go.Proofs.Ytdaglldahidmbaa
