/-
  Package hier: each of its laws for every argument; no conditions. The last text states which.
-/
import Derived.Test.YtdaglldahidmbaaGVP1
import Derived.Test.YtdaglldahidmbaaGAmBk
set_option linter.unusedVariables false
set_option linter.unusedSimpArgs false
open Go Go.Am Go.Proofs
namespace Go.Proofs.Ytdaglldahidmbaa
set_option maxRecDepth 100000
theorem jU:(Try.prog.underlying 22).map dR=some false:=by kernel_rfl
theorem Nm:(Try.prog.info? 22).map (·.size)=some 1:=by kernel_rfl
theorem rA45(C n bb o m c i:Nat)(x z:Int)(cc:List Value){M M0:aA}(hM:aB M)(X0:Ext M0 M)(hC:M0.next<=C)(gC:M.get C=some ⟨cc,3,1,0,true⟩)(a3:(decide ((i:Int)<(m:Int)))=true)(a1:bI Try.prog 3 ⟨bb,o+((i:Int):Int).toNat*1,none⟩ M0=some (i64 x))(a0:0<=(x:Int)/\(x:Int)<n)(a5:(cc)[0+(x:Int).toNat*1]?=some (i64 z))(a2:0+(x:Int).toNat*1+1<=(cc).length): ∃T1 M',Rd Try.prog [] (q96.loopAt 0) Try.f96.ntmps (fr [(0,(i64 (n:Int))),(1,(aC bb o m c)),(5,(aC C 0 n (n+1))),(15,(aC bb o m c)),(16,(i64 (m:Int))),(17,(i64 (i:Int)))]) M .normal T1 M'/\ [0,1,5,15,16,17].map T1.get= [some (i64 (n:Int)),some (aC bb o m c),some (aC C 0 n (n+1)),some (aC bb o m c),some (i64 (m:Int)),some (i64 (IntKind.wrap .i64 ((i:Int)+(1:Int))))]/\Ext M0 M'/\aB M'/\M'.get C=some ⟨splice cc (0+(x:Int).toNat*1) [i64 (IntKind.wrap .i64 (z+(1:Int)))],3,1,0,true⟩/\ ∀id k,M.get id=some k->id≠C->M'.get id=some k:=by
 obtain⟨M1,q2,g3,a7,X5,a4,a8⟩:=aZ (o:=0+(x:Int).toNat*1) (v:=(i64 (IntKind.wrap .i64 (z+(1:Int))))) (new:=splice cc (0+(x:Int).toNat*1) [i64 (IntKind.wrap .i64 (z+(1:Int)))]) X0 hC hM Jc gC rfl rfl (Nat.zero_le _) a2 rfl
 have a6: ∀id k,M.get id=some k->id≠C->M1.get id=some k:=fun id k g h_C=>by
  have g:=((fun id h _=>a7 id h) id h_C (aA.lt_of_get g)).trans g
  exact g
 obtain⟨T1,h1,h2⟩:=Rd.told (tb:=[]) (n:=60) (F:=[aP 2,aP 4,aR 6 (i64 x),aP 14,aR 16 (i64 z),aP 20,jJ 22 M1]) aG aF (aI Try.prog) (fun _ _=>rfl) (by kernel_rfl) (hk (bT a3) (hk (qI (i:Int) m (by omega) (by simp at a3;omega)) (hk (lD (aS X0 a1)) (hk (qI x n a0.1 a0.2) (hq (qL 3 C (0+(x:Int).toNat*1) M (i64 z)) (fF (bG (a:=⟨C,0+(x:Int).toNat*1,none⟩) bV gC a5)) (hk (qI x n a0.1 a0.2) (hq (qS 3 C (0+(x:Int).toNat*1) (i64 (IntKind.wrap .i64 (z+(1:Int)))) M M1) (dA q2) hn)))))))
 exact⟨T1,M1,h1,h2,X5,a4,g3,a6⟩
theorem rA45x(C n:Nat)(a:Option Addr)(m c i:Nat){M:aA}(a0:(decide ((i:Int)<(m:Int)))=false): ∃T1,Rd Try.prog [] (q96.loopAt 0) Try.f96.ntmps (fr [(0,(i64 (n:Int))),(1,(.slice a m c)),(5,(aC C 0 n (n+1))),(15,(.slice a m c)),(16,(i64 (m:Int))),(17,(i64 (i:Int)))]) M (.exit 0) T1 M/\ [0,1,5].map T1.get= [some (i64 (n:Int)),some (.slice a m c),some (aC C 0 n (n+1))]:=by
 exact Rd.told (tb:=[]) (n:=60) (F:=[aO 2]) aG aF (aI Try.prog) (fun _ _=>rfl) (by kernel_rfl) (hk (bF a0) hn)
theorem rB45(C D E n k q z i:Nat)(cc cd ce:List Value){M M0:aA}(hM:aB M)(X0:Ext M0 M)(hE:M0.next<=E)(gC:M.get C=some ⟨cc,3,1,0,true⟩)(gD:M.get D=some ⟨cd,3,1,0,true⟩)(gE:M.get E=some ⟨ce,22,1,0,true⟩)(a4:C≠E)(a5:D≠E)(a0:(decide ((i:Int)<(n:Int)))=true)(a7:(cc)[0+((i:Int):Int).toNat*1]?=some (i64 (z:Int)))(a3:q<=(q+z)/\(q+z)<=k)(a8:(IntKind.wrap .i64 ((q:Int)+(z:Int)))=(((q+z):Nat):Int))(a1:0+((i:Int):Int).toNat*1+1<=(ce).length): ∃T1 M',Rd Try.prog [] (q96.loopAt 2) Try.f96.ntmps (fr [(8,(aC D 0 k (k+1))),(9,(aC E 0 n (n+1))),(10,(i64 (q:Int))),(33,(aC C 0 n (n+1))),(34,(i64 (n:Int))),(35,(i64 (i:Int)))]) M .normal T1 M'/\ [8,9,10,33,34,35].map T1.get= [some (aC D 0 k (k+1)),some (aC E 0 n (n+1)),some (i64 (IntKind.wrap .i64 ((q:Int)+(z:Int)))),some (aC C 0 n (n+1)),some (i64 (n:Int)),some (i64 (IntKind.wrap .i64 ((i:Int)+(1:Int))))]/\Ext M0 M'/\aB M'/\M'.get C=some ⟨cc,3,1,0,true⟩/\M'.get D=some ⟨cd,3,1,0,true⟩/\M'.get E=some ⟨splice ce (0+((i:Int):Int).toNat*1) [aC D (0+q) 0 ((q+z)-q+1)],22,1,0,true⟩/\ ∀id k,M.get id=some k->id≠C->id≠D->id≠E->M'.get id=some k:=by
 obtain⟨M1,q2,g3,a2,X5,a6,b0⟩:=aZ (o:=0+((i:Int):Int).toNat*1) (v:=(aC D (0+q) 0 ((q+z)-q+1))) (new:=splice ce (0+((i:Int):Int).toNat*1) [aC D (0+q) 0 ((q+z)-q+1)]) X0 hE hM Nm gE rfl rfl (Nat.zero_le _) a1 rfl
 have g8:=(a2 _ a4).trans gC
 have g9:=(a2 _ a5).trans gD
 have a9: ∀id k,M.get id=some k->id≠C->id≠D->id≠E->M1.get id=some k:=fun id k g h_C h_D h_E=>by
  have g:=((fun id h _=>a2 id h) id h_E (aA.lt_of_get g)).trans g
  exact g
 obtain⟨T1,h1,h2⟩:=Rd.told (tb:=[]) (n:=60) (F:=[aP 2,aP 6,aR 8 (i64 (z:Int)),aR 30 (aC D (0+q) 0 ((q+z)-q+1)),aP 32,jJ 34 M1]) aG aF (aI Try.prog) (fun _ _=>rfl) (by kernel_rfl) (hk (bT a0) (hk (qI (i:Int) n (by omega) (by simp at a0;omega)) (hq (qL 3 C (0+((i:Int):Int).toNat*1) M (i64 (z:Int))) (fF (bG (a:=⟨C,0+((i:Int):Int).toNat*1,none⟩) bV gC a7)) (hq (.q (.slice 22 (aC D 0 k (k+1)) (some (i64 (q:Int))) (some (i64 (q:Int))) (some (i64 (IntKind.wrap .i64 ((q:Int)+(z:Int))))) M) (1,.val (aC D (0+q) 0 ((q+z)-q+1)),Dn)) (⟨_,rfl,(by rw[a8];exact Mc (by kernel_rfl) (elem:=3) (by kernel_rfl) gD rfl a3.1 a3.2)⟩) (hk (qI (i:Int) n (by omega) (by simp at a0;omega)) (hq (qS 22 E (0+((i:Int):Int).toNat*1) (aC D (0+q) 0 ((q+z)-q+1)) M M1) (dA q2) hn))))))
 exact⟨T1,M1,h1,h2,X5,a6,g8,g9,g3,a9⟩
theorem rB45x(C D E n k q i:Nat){M:aA}(a0:(decide ((i:Int)<(n:Int)))=false): ∃T1,Rd Try.prog [] (q96.loopAt 2) Try.f96.ntmps (fr [(8,(aC D 0 k (k+1))),(9,(aC E 0 n (n+1))),(10,(i64 (q:Int))),(33,(aC C 0 n (n+1))),(34,(i64 (n:Int))),(35,(i64 (i:Int)))]) M (.exit 2) T1 M/\ [9].map T1.get= [some (aC E 0 n (n+1))]:=by
 exact Rd.told (tb:=[]) (n:=60) (F:=[aO 2]) aG aF (aI Try.prog) (fun _ _=>rfl) (by kernel_rfl) (hk (bF a0) hn)
theorem Vz{a:Option Addr}{c C n:Nat}{a0:List Int}{M0 M:aA}(hM:aB M)(X:Ext M0 M)(hs:aL a0 (.slice a a0.length c) M0)(hb: ∀x∈a0,0<=x/\x<(n:Int))(hl:a0.length<=400)(hC:M0.next<=C)(gC:M.get C=some ⟨List.replicate n (i64 0),3,1,0,true⟩):
  ∃M',bN Try.prog [] (q96.loopAt 0) Try.f96.ntmps (fr [(0,i64 n),(1,.slice a a0.length c),(5,aC C 0 n (n+1)),(15,.slice a a0.length c),(16,i64 a0.length),(17,i64 ((0:Nat):Int))]) M (.exit 0) (fr [(0,i64 n),(1,.slice a a0.length c),(5,aC C 0 n (n+1))]) M'/\Ext M0 M'/\aB M'/\M'.get C=some ⟨gY (eM a0) a0.length n,3,1,0,true⟩:=by
 obtain⟨_,M',h1,h2,h3,h4⟩:=bN.for (P:=Try.prog) (GL:= []) (b:=q96.loopAt 0) (nt:=Try.f96.ntmps) (id:=0) (σ:=Unit) (n:=a0.length) (Inv:=fun i _ M1=>Ext M0 M1/\aB M1/\M1.get C=some ⟨gY (eM a0) i n,3,1,0,true⟩)
  (F:=fun i _=> [(0,i64 n),(1,.slice a a0.length c),(5,aC C 0 n (n+1)),(15,.slice a a0.length c),(16,i64 a0.length),(17,i64 ((i:Nat):Int))])
  (O:=fun _=> [(0,i64 n),(1,.slice a a0.length c),(5,aC C 0 n (n+1))])
  (by
   rintro i _ M1 hi ⟨X1,a1,a2⟩
   obtain⟨bb,o,rfl,_⟩:=cF hs (by omega)
   have ht:a0[i]?=some a0[i]:=List.getElem?_eq_getElem hi
   have hk:=Bl hb hi
   have a3:=hb _ (List.getElem_mem hi)
   have e0:0+(a0[i]:Int).toNat*1=eM a0 i:=by rw[Bj hi];omega
   obtain⟨T1,M2,h1,h2,h3,h4,h5,_⟩:=rA45 C n bb o a0.length c i a0[i] ((iR (eM a0) i (eM a0 i):Nat):Int) _ a1 X1 hC a2 (decide_eq_true (by omega)) (kM (P:=Try.prog) (ty:=3) hs ht rfl bV) a3 (by rw[e0];exact iS _ _ hk) (by rw[e0,iT];omega)
   rw[aX (by omega)] at h2
   have hc:=Cl (eM a0) i (eM a0 i)
   rw[e0,aX (by omega),uQ _ hk] at h5
   exact⟨(),T1,M2,h1,h2,h3,h4,h5⟩)
  (by
   rintro _ M1 ⟨X1,a1,a2⟩
   exact rA45x C n a a0.length c a0.length (M:=M1) (decide_eq_false (by omega)))
  a0.length 0 (by omega) (s:=()) (M:=M) ⟨X,hM,by rw[uR];exact gC⟩
 exact⟨M',h1,h2,h3,h4⟩
theorem Wa{C D E n:Nat}{a0:List Int}{M0 M:aA}(hM:aB M)(X:Ext M0 M)(hb: ∀x∈a0,0<=x/\x<(n:Int))(hl:a0.length<=400)(hn:n<=60)(hE:M0.next<=E)(gC:M.get C=some ⟨gY (eM a0) a0.length n,3,1,0,true⟩)(gD:M.get D=some ⟨List.replicate a0.length (i64 0),3,1,0,true⟩)(gE:M.get E=some ⟨List.replicate n eZ,22,1,0,true⟩)(a4:C≠E)(a5:D≠E):
  ∃M',bN Try.prog [] (q96.loopAt 2) Try.f96.ntmps (fr [(8,aC D 0 a0.length (a0.length+1)),(9,aC E 0 n (n+1)),(10,i64 ((0:Nat):Int)),(33,aC C 0 n (n+1)),(34,i64 n),(35,i64 ((0:Nat):Int))]) M (.exit 2) (fr [(9,aC E 0 n (n+1))]) M'/\Ext M0 M'/\aB M'/\M'.get D=some ⟨List.replicate a0.length (i64 0),3,1,0,true⟩/\M'.get E=some ⟨dN D (iR (eM a0) a0.length) (fun _=>0) n,22,1,0,true⟩:=by
 have hall:=tL (eM a0) n a0.length fun j hj=>Bl hb hj
 have a3:=fV D (iR (eM a0) a0.length) (fun _=>0) n
 obtain⟨_,M',h1,h2,h3,h4,h5,h6⟩:=bN.for (P:=Try.prog) (GL:= []) (b:=q96.loopAt 2) (nt:=Try.f96.ntmps) (id:=2) (σ:=Unit) (n:=n) (Inv:=fun i _ M1=>Ext M0 M1/\aB M1/\M1.get C=some ⟨gY (eM a0) a0.length n,3,1,0,true⟩/\M1.get D=some ⟨List.replicate a0.length (i64 0),3,1,0,true⟩/\M1.get E=some ⟨sI (dN D (iR (eM a0) a0.length) (fun _=>0) n) i eZ,22,1,0,true⟩)
  (F:=fun i _=> [(8,aC D 0 a0.length (a0.length+1)),(9,aC E 0 n (n+1)),(10,i64 ((dS (iR (eM a0) a0.length) i:Nat):Int)),(33,aC C 0 n (n+1)),(34,i64 n),(35,i64 ((i:Nat):Int))])
  (O:=fun _=> [(9,aC E 0 n (n+1))])
  (by
   rintro i _ M1 hi ⟨X1,a1,a6,a7,a8⟩
   have hnx:=oG (iR (eM a0) a0.length) hi
   have e0:0+((i:Int):Int).toNat*1=i:=by simp
   have ew:=Ep (i:=dS (iR (eM a0) a0.length) i) (j:=iR (eM a0) a0.length i) (by omega)
   obtain⟨T1,M2,h1,h2,h3,h4,h5,h6,h7,_⟩:=rB45 C D E n a0.length (dS (iR (eM a0) a0.length) i) (iR (eM a0) a0.length i) i _ _ _ a1 X1 hE a6 a7 a8 a4 a5 (decide_eq_true (by omega)) (by rw[e0];exact iS _ _ hi) ⟨by omega,by omega⟩ ew (by rw[e0,tX _ _ (by omega)];omega)
   rw[aX (by omega),ew] at h2
   have a2:=vQ (z:=eZ) (hQ D (iR (eM a0) a0.length) (fun _=>0) hi)
   simp only [Aa] at a2
   rw[e0,Nat.zero_add,Nat.add_sub_cancel_left,a2] at h7
   exact⟨(),T1,M2,h1,h2,h3,h4,h5,h6,h7⟩)
  (by
   rintro _ M1 ⟨X1,a1,_⟩
   exact rB45x C D E n a0.length _ n (M:=M1) (decide_eq_false (by omega)))
  n 0 (by omega) (s:=()) (M:=M) ⟨X,hM,gC,gD,by rw[vR,a3];exact gE⟩
 refine⟨M',h1,h2,h3,h5,?_⟩
 have:=yV (dN D (iR (eM a0) a0.length) (fun _=>0) n) eZ
 rw[a3] at this
 rw[this] at h6
 exact h6
theorem rK96:Try.f96.results= #[.tmp 4]:=by kernel_rfl
theorem w45(n:Nat)(a2:Option Addr)(a3:Nat)(a0:List Int){M:aA}(hM:aB M)(a5:aL a0 (.slice a2 a0.length a3) M)(a1:a0.length<=400/\n<=60/\ ∀x∈a0,0<=x/\x<(n:Int)): ∃v M',Ev Try.prog [] 96 [i64 n,.slice a2 a0.length a3] M v M'/\Ext M M'/\aB M'/\Tt (n,a0) M.next v M':=by
 obtain⟨b1,M2,d3,d4,g5,E6,e1⟩:=sJ (P:=Try.prog) (t:=22) (elem:=3) (z:=(i64 0)) (n:=n) hM (by kernel_rfl) (by kernel_rfl) (by have:=a1.1;have:=a1.2.1;omega)
 have e2:M.next<=b1:=by rw[<-d3];exact(Ext.refl M).next
 have X8:=(Ext.refl M).trans E6
 obtain⟨M9,b9,c7,c1,d5⟩:=Vz e1 X8 a5 a1.2.2 a1.1 e2 g5
 obtain⟨b0,b3,b6,b7,c9,c6,c2⟩:=sJ (P:=Try.prog) (t:=22) (elem:=3) (z:=(i64 0)) (n:=a0.length) c1 (by kernel_rfl) (by kernel_rfl) (by have:=a1.1;have:=a1.2.1;omega)
 have c5:=mG b6 c7
 have d0:=c6.old d5
 have c8:=c7.trans c6
 obtain⟨a6,b4,a8,b8,d6,b2,c3⟩:=sJ (P:=Try.prog) (t:=29) (elem:=22) (z:=eZ) (n:=n) c2 (by kernel_rfl) (by kernel_rfl) (by have:=a1.1;have:=a1.2.1;omega)
 have a9:=mG a8 c8
 have a7:=fL d0 a8
 have a4:=fL c9 a8
 have d7:=b2.old d0
 have d8:=b2.old c9
 have d1:=c8.trans b2
 obtain⟨b5,c0,d2,c4,d9,e0⟩:=Wa c3 d1 a1.2.2 a1.1 a1.2.1 a9 d7 d8 d6 a7 a4
 exact⟨aC a6 0 n (n+1),b5,Ev.told_tmp (tb:=[0,2]) (n:=60) (F:=[bK 5 (aC b1 0 n (n+1)) M2,aP 11,.blk 14 [0,1,5,15,16,17] .normal (fr [(0,(i64 (n:Int))),(1,(.slice a2 a0.length a3)),(5,(aC b1 0 n (n+1)))]) M9,aP 18,bK 20 (aC b0 0 a0.length (a0.length+1)) b3,bK 26 (aC a6 0 n (n+1)) b4,.blk 37 [8,9,10,33,34,35] .normal (fr [(9,(aC a6 0 n (n+1)))]) b5]) aG aF Try.func96 aAR (by kernel_rfl) rK96 (fun B=>sb2 (gS B) 0 b9 2 c0) (fun _ h=>yN h) (by kernel_rfl) (hq (.eq (bU Try.prog 22 (i64 (n:Int)) (i64 (n:Int)) M) (1,.val (aC b1 0 n (n+1)),M2)) (bP d4 Nat.one_ne_zero) (hk (lN a5.ln) (hq (.blk 0 (.loop (q96.loopAt 0)) Try.f96.ntmps [0,1,5,15,16,17] [some (i64 (n:Int)),some (.slice a2 a0.length a3),some (aC b1 0 n (n+1)),some (.slice a2 a0.length a3),some (i64 (a0.length:Int)),some (i64 0)] M2 .normal (fr [(0,(i64 (n:Int))),(1,(.slice a2 a0.length a3)),(5,(aC b1 0 n (n+1)))]) M9) (fP rfl) (hk (lN a5.ln) (hq (.eq (bU Try.prog 22 (i64 (a0.length:Int)) (i64 (a0.length:Int)) M9) (1,.val (aC b0 0 a0.length (a0.length+1)),b3)) (bP b7 Nat.one_ne_zero) (hq (.eq (bU Try.prog 29 (i64 (n:Int)) (i64 (n:Int)) b3) (1,.val (aC a6 0 n (n+1)),b4)) (bP b8 Nat.one_ne_zero) (hq (.blk 2 (.loop (q96.loopAt 2)) Try.f96.ntmps [8,9,10,33,34,35] [some (aC b0 0 a0.length (a0.length+1)),some (aC a6 0 n (n+1)),some (i64 0),some (aC b1 0 n (n+1)),some (i64 (n:Int)),some (i64 0)] b4 .normal (fr [(9,(aC a6 0 n (n+1)))]) b5) (fP rfl) hn))))))),d2,c4,⟨a6,b0,rfl,a9,c5,a4,e0,d9⟩⟩
abbrev Q96:=FC (hZ (mU pN aL) fun x:Nat×List Int=>x.2.length<=400/\x.1<=60/\ ∀z∈x.2,0<=z/\z<(x.1:Int)) Tt id
theorem con96{x:Nat×List Int}{lv:List Value}{M:aA}(hM:aB M)(h:(hZ (mU pN aL) fun x:Nat×List Int=>x.2.length<=400/\x.1<=60/\ ∀z∈x.2,0<=z/\z<(x.1:Int)) x lv M): ∃v M',lM Try.prog [] 96 Q96 lv M v M':=by
 refine FC.con h ?_
 obtain⟨⟨g0,g1,rfl,rfl,k1⟩,a0⟩:=h
 obtain⟨n,a1⟩:=x
 obtain⟨a,c,rfl⟩:=aH.form k1
 obtain⟨v,M',h1,h2,_,h3⟩:=w45 n a c a1 hM k1 a0
 exact⟨v,M',h1,h2,h3⟩
theorem r36(D E n bb o m c i p q w:Nat)(x:Int)(cd ce:List Value){M M0:aA}(hM:aB M)(X0:Ext M0 M)(hD:M0.next<=D)(hE:M0.next<=E)(gD:M.get D=some ⟨cd,3,1,0,true⟩)(gE:M.get E=some ⟨ce,22,1,0,true⟩)(b2:D≠E)(b0:(decide ((i:Int)<(m:Int)))=true)(a8:bI Try.prog 3 ⟨bb,o+((i:Int):Int).toNat*1,none⟩ M0=some (i64 x))(a3:0<=(x:Int)/\(x:Int)<n)(c3:(ce)[0+(x:Int).toNat*1]?=some (aC D p q w))(a4:q+1<w/\p+(q+1)*1<=(cd).length/\q<1073741824)(a9:0+(x:Int).toNat*1+1<=(ce).length): ∃T1 M',Rd Try.prog [] (q87.loopAt 0) Try.f87.ntmps (fr [(5,(aC E 0 n (n+1))),(11,(aC bb o m c)),(12,(i64 (m:Int))),(13,(i64 (i:Int)))]) M .normal T1 M'/\ [5,11,12,13].map T1.get= [some (aC E 0 n (n+1)),some (aC bb o m c),some (i64 (m:Int)),some (i64 (IntKind.wrap .i64 ((i:Int)+(1:Int))))]/\Ext M0 M'/\aB M'/\M'.get D=some ⟨splice cd (p+q*1) [i64 (i:Int)],3,1,0,true⟩/\M'.get E=some ⟨splice ce (0+(x:Int).toNat*1) [aC D p (q+1) w],22,1,0,true⟩/\ ∀id k,M.get id=some k->id≠D->id≠E->M'.get id=some k:=by
 obtain⟨b1,M2,b6,b7,g5,E6,c2⟩:=bE hM ⟨[i64 (i:Int)],3,1,0,true⟩
 have g8:=E6.old gD
 have g9:=E6.old gE
 have b3:=X0.trans E6
 obtain⟨a5,q13,b8,a0,b4,a6,c5⟩:=zV (P:=Try.prog) (sT:=22) (xT:=22) (elem:=3) (w:=1) (y:=8) (cx:=2) b3 hD c2 (by kernel_rfl) (by kernel_rfl) (by kernel_rfl) (by decide) (by decide) a4.2.2 g5 (ox:=0) (new:= [i64 (i:Int)]) rfl rfl rfl g8 (wI (n:=q*1) (k:=p) (l:=cd) (by have:=a4.2.1;omega)) rfl rfl (Nat.zero_le _) a4.1 a4.2.1
 have b9:=(a0 _ (Ne.symm b2)).trans g9
 obtain⟨a2,q22,c0,a1,b5,a7,c6⟩:=aZ (o:=0+(x:Int).toNat*1) (v:=(aC D p (q+1) w)) (new:=splice ce (0+(x:Int).toNat*1) [aC D p (q+1) w]) b4 hE a6 Nm b9 rfl rfl (Nat.zero_le _) a9 rfl
 have c1:=(a1 _ b2).trans b8
 have c4: ∀id k,M.get id=some k->id≠D->id≠E->a2.get id=some k:=fun id k g h_D h_E=>by
  have g:=E6.old g
  have g:=((fun id h _=>a0 id h) id h_D (aA.lt_of_get g)).trans g
  have g:=((fun id h _=>a1 id h) id h_E (aA.lt_of_get g)).trans g
  exact g
 obtain⟨T1,h1,h2⟩:=Rd.told (tb:=[]) (n:=60) (F:=[aP 2,aP 6,aR 8 (i64 x),aP 22,aR 24 (aC D p q w),bK 28 (aC b1 0 1 2) M2,.at 30 (2,.val (aC D p (q+1) w),a5),aP 32,jJ 34 a2]) aG aF (aI Try.prog) (fun _ _=>rfl) (by kernel_rfl) (hk (bT b0) (hk (qI (i:Int) m (by omega) (by simp at b0;omega)) (hk (lD (aS X0 a8)) (hk (qI x n a3.1 a3.2) (hq (qL 22 E (0+(x:Int).toNat*1) M (aC D p q w)) (fF (bG (a:=⟨E,0+(x:Int).toNat*1,none⟩) jU gE c3)) (hq (.eq (bH Try.prog 22 1 [(0,(i64 (i:Int)))] M) (1,.val (aC b1 0 1 2),M2)) (bP (by rw[<-b6,<-b7];kernel_rfl) Nat.one_ne_zero) (hq (.q (.append [22,22] (aC D p q w) (aC b1 0 1 2) M2) (2,.val (aC D p (q+1) w),a5)) (kS q13 (Nat.succ_ne_zero _)) (hk (qI x n a3.1 a3.2) (hq (qS 22 E (0+(x:Int).toNat*1) (aC D p (q+1) w) a5 a2) (dA q22) hn)))))))))
 exact⟨T1,a2,h1,h2,b5,a7,c1,c0,c4⟩
theorem r36x(E n:Nat)(a:Option Addr)(m c i:Nat){M:aA}(a0:(decide ((i:Int)<(m:Int)))=false): ∃T1,Rd Try.prog [] (q87.loopAt 0) Try.f87.ntmps (fr [(5,(aC E 0 n (n+1))),(11,(.slice a m c)),(12,(i64 (m:Int))),(13,(i64 (i:Int)))]) M (.exit 0) T1 M/\ [5].map T1.get= [some (aC E 0 n (n+1))]:=by
 exact Rd.told (tb:=[]) (n:=60) (F:=[aO 2]) aG aF (aI Try.prog) (fun _ _=>rfl) (by kernel_rfl) (hk (bF a0) hn)
theorem Ze{a:Option Addr}{c D E n:Nat}{a0:List Int}{M0 M:aA}(hM:aB M)(X:Ext M0 M)(hs:aL a0 (.slice a a0.length c) M0)(hb: ∀x∈a0,0<=x/\x<(n:Int))(hl:a0.length<=400)(hD:M0.next<=D)(hE:M0.next<=E)(a5:D≠E)(gE:M.get E=some ⟨dN D (iR (eM a0) a0.length) (fun _=>0) n,22,1,0,true⟩)(gD:M.get D=some ⟨List.replicate a0.length (i64 0),3,1,0,true⟩):
  ∃M',bN Try.prog [] (q87.loopAt 0) Try.f87.ntmps (fr [(5,aC E 0 n (n+1)),(11,.slice a a0.length c),(12,i64 a0.length),(13,i64 ((0:Nat):Int))]) M (.exit 0) (fr [(5,aC E 0 n (n+1))]) M'/\Ext M0 M'/\aB M'/\M'.get E=some ⟨dN D (iR (eM a0) a0.length) (iR (eM a0) a0.length) n,22,1,0,true⟩/\ ∃mem,M'.get D=some ⟨mem,3,1,0,true⟩/\Bk (iR (eM a0) a0.length) n (eM a0) (fun j=>i64 ((j:Nat):Int)) a0.length mem:=by
 have a1:=tL (eM a0) n a0.length fun j hj=>Bl hb hj
 obtain⟨_,M',h1,h2,h3,h4,h5⟩:=bN.for (P:=Try.prog) (GL:= []) (b:=q87.loopAt 0) (nt:=Try.f87.ntmps) (id:=0) (σ:=Unit) (n:=a0.length) (Inv:=fun i _ M1=>Ext M0 M1/\aB M1/\M1.get E=some ⟨dN D (iR (eM a0) a0.length) (iR (eM a0) i) n,22,1,0,true⟩/\ ∃mem,M1.get D=some ⟨mem,3,1,0,true⟩/\Bk (iR (eM a0) a0.length) n (eM a0) (fun j=>i64 ((j:Nat):Int)) i mem)
  (F:=fun i _=> [(5,aC E 0 n (n+1)),(11,.slice a a0.length c),(12,i64 a0.length),(13,i64 ((i:Nat):Int))])
  (O:=fun _=> [(5,aC E 0 n (n+1))])
  (by
   rintro i _ M1 hi ⟨X1,a2,a7,mem,a8,hB⟩
   obtain⟨bb,o,rfl,_⟩:=cF hs (by omega)
   have ht:a0[i]?=some a0[i]:=List.getElem?_eq_getElem hi
   have hk:=Bl hb hi
   have a6:=hb _ (List.getElem_mem hi)
   have a3:=Sd (eM a0) hi
   have hroom:=hB.room hk a3
   have hc:=Cl (eM a0) i (eM a0 i)
   have e0:0+(a0[i]:Int).toNat*1=eM a0 i:=by rw[Bj hi];omega
   obtain⟨T1,M2,h1,h2,h3,h4,h5,h6,_⟩:=r36 D E n bb o a0.length c i (dS (iR (eM a0) a0.length) (eM a0 i)) (iR (eM a0) i (eM a0 i)) (iR (eM a0) a0.length (eM a0 i)+1) a0[i] _ _ a2 X1 hD hE a8 a7 a5 (decide_eq_true (by omega)) (kM (P:=Try.prog) (ty:=3) hs ht rfl bV) a6 (by rw[e0];exact hQ _ _ _ hk) ⟨by omega,by omega,by omega⟩ (by rw[e0,fV];omega)
   rw[aX (by omega)] at h2
   rw[e0,uY D _ (eM a0) i n hk] at h6
   have a4:=hB.step hk a3
   rw[show dS (iR (eM a0) a0.length) (eM a0 i)+iR (eM a0) i (eM a0 i)=dS (iR (eM a0) a0.length) (eM a0 i)+iR (eM a0) i (eM a0 i)*1 by omega] at a4
   exact⟨(),T1,M2,h1,h2,h3,h4,h6,_,h5,a4⟩)
  (by
   rintro _ M1 ⟨X1,a2,_⟩
   exact r36x E n a a0.length c a0.length (M:=M1) (decide_eq_false (by omega)))
  a0.length 0 (by omega) (s:=()) (M:=M) ⟨X,hM,gE,_,gD,Bk.zero (by rw[a1];simp)⟩
 exact⟨M',h1,h2,h3,h4,h5⟩
theorem rK87:Try.f87.results= #[.tmp 4]:=by kernel_rfl
theorem w36(n:Nat)(a1:Option Addr)(a2:Nat)(a0:List Int){M:aA}(hM:aB M)(a4:aL a0 (.slice a1 a0.length a2) M)(a3:a0.length<=400/\n<=60/\ ∀x∈a0,0<=x/\x<(n:Int)): ∃v M',Ev Try.prog [] 87 [i64 n,.slice a1 a0.length a2] M v M'/\Ext M M'/\aB M'/\iQ bC (mE n a0) M.next v M':=by
 obtain⟨w3,N4,M5,p6,l7,e8,E9,b4,b6⟩:=aM (x:=(n,a0)) hM con96 (⟨⟨_,_,rfl,rfl,AP.Ext (R:=aL) a4 (Ext.refl M)⟩,a3⟩)
 obtain⟨b1,b2,b9,a6,a7,a5,c1,c2⟩:=b6
 subst b9
 have a6:=Nat.le_trans (Ext.refl M).next a6
 have a7:=Nat.le_trans (Ext.refl M).next a7
 have b7:=(Ext.refl M).trans E9
 obtain⟨a8,b3,b8,b5,c0,c3,a9,b0⟩:=Ze b4 b7 a4 a3.2.2 a3.1 a7 a6 a5 c1 c2
 exact⟨aC b1 0 n (n+1),a8,Ev.told_tmp (tb:=[0]) (n:=60) (F:=[bK 7 (aC b1 0 n (n+1)) M5,aP 13,.blk 16 [5,11,12,13] .normal (fr [(5,(aC b1 0 n (n+1)))]) a8]) aG aF Try.func87 aAO (by kernel_rfl) rK87 (fun B=>zJ (gP 96 Q96 (gS _)) 0 b3) (fun _ h=>cD h) (by kernel_rfl) (hq (qC 96 [i64 (n:Int),.slice a1 a0.length a2] M (aC b1 0 n (n+1)) M5) (aJ rfl p6 l7 e8) (hk (lN a4.ln) (hq (.blk 0 (.loop (q87.loopAt 0)) Try.f87.ntmps [5,11,12,13] [some (aC b1 0 n (n+1)),some (.slice a1 a0.length a2),some (i64 (a0.length:Int)),some (i64 0)] M5 .normal (fr [(5,(aC b1 0 n (n+1)))]) a8) (fP rfl) hn))),b8,b5,Uj (jV a6 c0) (jV a7 a9) b0 (by have:=a3.1;omega) _⟩
abbrev Q87:=FC (hZ (mU pN aL) fun x:Nat×List Int=>x.2.length<=400/\x.1<=60/\ ∀z∈x.2,0<=z/\z<(x.1:Int)) (iQ bC) (fun x=>mE x.1 x.2)
theorem Xp{x:Nat×List Int}{lv:List Value}{M:aA}(hM:aB M)(h:(hZ (mU pN aL) fun x:Nat×List Int=>x.2.length<=400/\x.1<=60/\ ∀z∈x.2,0<=z/\z<(x.1:Int)) x lv M): ∃v M',lM Try.prog [] 87 Q87 lv M v M':=by
 refine FC.con h ?_
 obtain⟨⟨g0,g1,rfl,rfl,k1⟩,a0⟩:=h
 obtain⟨n,a1⟩:=x
 obtain⟨a,c,rfl⟩:=aH.form k1
 obtain⟨v,M',h1,h2,_,h3⟩:=w36 n a c a1 hM k1 a0
 exact⟨v,M',h1,h2,h3⟩
theorem Aw:(Try.prog.underlying 26).map dR=some true:=by kernel_rfl
theorem vO:(Try.prog.info? 26).map (·.size)=some 2:=by kernel_rfl
theorem rK73:Try.f73.results= #[.tmp 2]:=by kernel_rfl
theorem w26(n:Nat)(al:Option Addr)(cl:Nat)(l:List E4){M:aA}(hM:aB M)(hl:aU l (.slice al l.length cl) M)(h8:eX (n:Int) l=true)(b5:1<=(n:Int)/\(n:Int)<=60/\l.length<=400/\ ∀e∈l,0<=e.f/\e.f<(n:Int)/\0<=e.t/\e.t<(n:Int)/\Qt e): ∃v M',Ev Try.prog [] 73 [.agg ⟨[i64 (n:Int),.slice al l.length cl]⟩] M v M'/\Ext M M'/\aB M'/\iQ (eP 108) (iY n l) M.next v M':=by
 obtain⟨b1,M2,l7,l8,g5,E6,l9⟩:=bE hM ⟨[i64 (n:Int),.slice al l.length cl],26,2,0,true⟩
 have X9:=(Ext.refl M).trans E6
 obtain⟨n9,o2,c4,m5,m0,l5,i6,h2,k3⟩:=aM (x:=((n:Int),l)) l9 Se (⟨_,rfl,_,rfl,AP.Ext (R:=aU) hl X9⟩)
 have g9:=i6.old g5
 have g6:n9=(.bool (eX (n:Int) l)):=k3
 subst g6
 have j3:=X9.trans i6
 have a3:=aA.lt_of_get g9
 obtain⟨w24,o3,a0,m6,m1,l6,i7,h3,k4⟩:=aM (x:=(l,uK.to)) h2 Sj (⟨⟨_,_,rfl,AP.Ext (R:=aU) hl j3,rfl⟩,b5.2.2.1,fun e he=>(b5.2.2.2 e he).2.2.2.2⟩)
 have j9:=i7.old g9
 have i9:aL (l.map (dZ .to)) w24 (cK [(0,c4.next)] a0):=lY k4
 obtain⟨c7,c8,d0⟩:=aH.form i9
 rw[List.length_map] at d0
 subst d0
 have b7:=j3.trans i7
 obtain⟨c5,b0⟩:=Kz a0 a0 []
 have j4:=Ow b0 b7
 have i0:c5.log= []:=by rw[b0]
 have k2:c5.next=a0.next:=by rw[b0]
 have h4:=Lg b0 h3
 have a3:=aA.lt_of_get j9
 have h0:=cG b0 j9
 have k5:=gI (R:=aL) (M':=c5) i9 (fun id b h=>by rw[b0];exact h)
 obtain⟨w46,o4,a8,m7,m2,j6,e6,h5,k6⟩:=aM (x:=(l,uK.fr)) h4 Sj (⟨⟨_,_,rfl,AP.Ext (R:=aU) (AP.log (R:=aU) hl) j4,rfl⟩,b5.2.2.1,fun e he=>(b5.2.2.2 e he).2.2.2.2⟩)
 have k7:=iM (R:=aL) k5 e6
 have k0:=e6.old h0
 have j0:aL (l.map (dZ .fr)) w46 (cK [(0,c5.next)] a8):=lY k6
 obtain⟨g3,g4,d1⟩:=aH.form j0
 rw[List.length_map] at d1
 subst d1
 have i1:a8.log= []:=by rw[<-j6];exact i0
 have j5:=j4.trans e6
 have ltb1M65:=aA.lt_of_get k0
 obtain⟨o0,o5,a7,m8,m3,j7,e7,h6,k8⟩:=aM (x:=(n,l.map (dZ .fr))) h5 Xp (⟨⟨_,_,rfl,rfl,eO (R:=aL) j0⟩,by simpa using b5.2.2.1,by have:=b5.2.1;omega,mT h8 (by simp)⟩)
 have i8:=iM (R:=aL) k7 e7
 have h1:=e7.old k0
 have j1:bC (mE n (l.map (dZ .fr))) o0 (cK [(0,a8.next)] a7):=lY k8
 obtain⟨e0,e4,l3,d2,_⟩:=id j1
 rw[Ed] at d2
 subst d2
 have i2:a7.log= []:=by rw[<-j7];exact i1
 have g2:=j5.trans e7
 have ltb1M84:=aA.lt_of_get h1
 obtain⟨o1,o6,b2,m9,m4,j8,e2,h7,k9⟩:=aM (x:=(n,l.map (dZ .to))) h6 Xp (⟨⟨_,_,rfl,rfl,eO (R:=aL) i8⟩,by simpa using b5.2.2.1,by have:=b5.2.1;omega,mT h8 (by simp)⟩)
 have l0:=iM (R:=aL) i8 e2
 have l1:=iM (R:=bC) j1 e2
 have k1:=e2.old h1
 have j2:bC (mE n (l.map (dZ .to))) o1 (cK [(0,a7.next)] b2):=lY k9
 obtain⟨e1,e5,l4,d3,_⟩:=id j2
 rw[Ed] at d3
 subst d3
 have i3:b2.log= []:=by rw[<-j8];exact i2
 have e3:=g2.trans e2
 have ltb1M104:=aA.lt_of_get k1
 obtain⟨i5,l2,a9,i4,h9,c9,b6,d4,e8⟩:=aM (x:=(l,uK.set)) h7 Sj (⟨⟨_,_,rfl,AP.Ext (R:=aU) (AP.log (R:=aU) hl) e3,rfl⟩,b5.2.2.1,fun e he=>(b5.2.2.2 e he).2.2.2.2⟩)
 have e9:=iM (R:=aL) l0 b6
 have f0:=iM (R:=bC) l1 b6
 have f1:=iM (R:=bC) j2 b6
 have c3:aL (l.map (dZ .set)) i5 (cK [(0,b2.next)] a9):=lY e8
 obtain⟨b8,b9,c1⟩:=aH.form c3
 rw[List.length_map] at c1
 subst c1
 have d7:a9.log= []:=by rw[<-c9];exact i3
 have c2:=e3.trans b6
 obtain⟨b3,a1,a5,c0,g7,b4,d5⟩:=bE d4 ⟨[aC e0 0 n e4,aC e1 0 n e5,.slice c7 l.length c8,.slice b8 l.length b9],108,4,0,true⟩
 have d9:M.next<=b3:=(mG a5 c2:)
 have f2:=jH (R:=aL) e9 a5 b4
 have f4:=jH (R:=bC) f0 a5 b4
 have f5:=jH (R:=bC) f1 a5 b4
 have f6:=jH (R:=aL) c3 a5 b4
 have d8:a1.log= []:=by rw[<-c0];exact d7
 have c6:=c2.trans b4
 obtain⟨a6,a2⟩: ∃m:aA,m=(aA.mk a1.blks a1.next a1.hide (a1.log++a0.log)):=⟨_,rfl⟩
 have g1:Ext M a6:=by rw[a2];exact Ext.join (b7) (c6)
 have d6:aB a6:=by rw[a2];exact d5
 have g8:=cG a2 g7
 have f7:=gI (R:=aL) (M':=a6) f2 (fun id b h=>by rw[a2];exact h)
 have f8:=gI (R:=bC) (M':=a6) f4 (fun id b h=>by rw[a2];exact h)
 have f9:=gI (R:=bC) (M':=a6) f5 (fun id b h=>by rw[a2];exact h)
 have g0:=gI (R:=aL) (M':=a6) f6 (fun id b h=>by rw[a2];exact h)
 have a4:oT Try.prog [] 60 Try.f73 q73 [.agg ⟨[i64 (n:Int),.slice al l.length cl]⟩] M [bK 1 (pt b1 0) M2,aR 5 (.agg ⟨[i64 (n:Int),.slice al l.length cl]⟩),bK 7 (.bool (eX (n:Int) l)) c4,aO 10,aR 14 (.slice al l.length cl),bK 16 (.slice c7 l.length c8) a0,aR 22 (i64 (n:Int)),aR 26 (.slice al l.length cl),bK 28 (.slice g3 l.length g4) a8,bK 30 (aC e0 0 n e4) a7,aR 34 (i64 (n:Int)),bK 38 (aC e1 0 n e5) b2,aR 44 (.slice al l.length cl),bK 46 (.slice b8 l.length b9) a9,bK 50 (pt b3 0) a1] 2=some (.ret,some (pt b3 0),aA.mk a1.blks a1.next a0.hide (a1.log++a0.log),[.eq (eL Try.prog 26 (.agg ⟨[i64 (n:Int),.slice al l.length cl]⟩) M) (1,.val (pt b1 0),M2),qL 26 b1 0 M2 (.agg ⟨[i64 (n:Int),.slice al l.length cl]⟩),qC 20 [.agg ⟨[i64 (n:Int),.slice al l.length cl]⟩] M2 (.bool (eX (n:Int) l)) c4,qF (!(eX (n:Int) l)),qL 24 b1 1 c4 (.slice al l.length cl),qC 85 [.slice al l.length cl,.func (.func 86) ⟨[]⟩ ⟨[]⟩] c4 (.slice c7 l.length c8) a0,qL 3 b1 0 (aA.mk a0.blks a0.next a0.hide []) (i64 (n:Int)),qT (Nat.blt b1 a0.next),qL 24 b1 1 (aA.mk a0.blks a0.next a0.hide []) (.slice al l.length cl),qC 85 [.slice al l.length cl,.func (.func 88) ⟨[]⟩ ⟨[]⟩] (aA.mk a0.blks a0.next a0.hide []) (.slice g3 l.length g4) a8,qC 87 [i64 (n:Int),.slice g3 l.length g4] (aA.mk a8.blks a8.next a0.hide a8.log) (aC e0 0 n e4) a7,qL 3 b1 0 (aA.mk a7.blks a7.next (aV 64 [⟨5,1,a8.next,a7.next⟩,⟨4,1,a0.next,a8.next⟩,⟨3,1,a0.next,a0.next⟩]++a0.hide) a7.log) (i64 (n:Int)),qT (Nat.blt b1 a0.next),qC 87 [i64 (n:Int),.slice c7 l.length c8] (aA.mk a7.blks a7.next a0.hide a7.log) (aC e1 0 n e5) b2,qL 24 b1 1 (aA.mk b2.blks b2.next (aV 2048 [⟨9,1,a7.next,b2.next⟩,⟨5,1,a8.next,a7.next⟩,⟨4,1,a0.next,a8.next⟩,⟨3,1,a0.next,a0.next⟩]++a0.hide) b2.log) (.slice al l.length cl),qT (Nat.blt b1 a0.next),qC 85 [.slice al l.length cl,.func (.func 89) ⟨[]⟩ ⟨[]⟩] (aA.mk b2.blks b2.next a0.hide b2.log) (.slice b8 l.length b9) a9,.eq (eL Try.prog 108 (.agg ⟨[aC e0 0 n e4,aC e1 0 n e5,.slice c7 l.length c8,.slice b8 l.length b9]⟩) (aA.mk a9.blks a9.next a0.hide a9.log)) (1,.val (pt b3 0),a1),qT (cY [b1,b1,b1] a1.log)]):=by kernel_rfl
 have n0:aA.mk a0.blks a0.next a0.hide []=c5:=b0.symm
 have n1:=pY ((b7).hide.trans (j5).hide.symm)
 have n2:=pY ((b7).hide.trans (g2).hide.symm)
 have n3:=Jd 64 [⟨5,1,a8.next,a7.next⟩,⟨4,1,a0.next,a8.next⟩,⟨3,1,a0.next,a0.next⟩] ((b7).hide.trans (g2).hide.symm)
 have n4:=pY ((b7).hide.trans (e3).hide.symm)
 have n5:=Jd 2048 [⟨9,1,a7.next,b2.next⟩,⟨5,1,a8.next,a7.next⟩,⟨4,1,a0.next,a8.next⟩,⟨3,1,a0.next,a0.next⟩] ((b7).hide.trans (e3).hide.symm)
 have n6:=pY ((b7).hide.trans (c2).hide.symm)
 have n7:=Ew (L:=(a1.log++a0.log)) ((b7).hide.trans (c6).hide.symm)
 have n8:(aA.mk a1.blks a1.next a1.hide (a1.log++a0.log))=a6:=a2.symm
 try rw[n0] at a4
 try rw[n1] at a4
 try rw[n2] at a4
 try rw[n3] at a4
 try rw[n4] at a4
 try rw[n5] at a4
 try rw[n6] at a4
 try rw[n7] at a4
 try rw[n8] at a4
 exact⟨pt b3 0,a6,Ev.told_tmp aG aF Try.func73 aAF (by kernel_rfl) rK73 (fun B=>lQ (gP 20 Q20 (gP 85 Q85 (gP 87 Q87 (gS _))))) (fun _ _=>rfl) a4 (hk (bP (by rw[<-l7,<-l8];kernel_rfl) Nat.one_ne_zero) (hk (lA ⟨Aw,vO⟩ g5 rfl) (hk (aJ rfl m5 m0 l5) (hk (bF (by rw[h8];rfl)) (hk (lC nN g9 rfl) (hk (aJ rfl m6 m1 l6) (hk (lC bV h0 rfl) (hk (mB a3) (hk (lC nN h0 rfl) (hk (aJ rfl m7 m2 j6) (hk (aJ rfl m8 m3 j7) (hk (lC bV (cB.2 ⟨dI (by simp;omega),h1⟩) rfl) (hk (mB a3) (hk (aJ rfl m9 m4 j8) (hk (lC nN (cB.2 ⟨dI (by simp;omega),k1⟩) rfl) (hk (mB a3) (hk (aJ rfl i4 h9 c9) (hk (bP (by rw[<-a5,<-c0];kernel_rfl) Nat.one_ne_zero) (hk (eD (by rw[d8];simp<;>omega)) hn))))))))))))))))))),g1,d6,⟨b3,_,_,_,_,rfl,jV d9 g8,Gh (R:=bC) f8 (by intro id hh;simp only [bQ] at hh;omega),Gh (R:=bC) f9 (by intro id hh;simp only [bQ] at hh;omega),Gh (R:=aL) f7 (by intro id hh;simp only [bQ] at hh;omega),Gh (R:=aL) g0 (by intro id hh;simp only [bQ] at hh;omega)⟩⟩
abbrev Q73:=FC (hZ (sU nT) fun x=>eX (x.1:Int) x.2=true) (iQ (eP 108)) (fun x=>iY x.1 x.2)
theorem con73{x:Nat×List E4}{lv:List Value}{M:aA}(hM:aB M)(h:(hZ (sU nT) fun x:Nat×List E4=>eX (x.1:Int) x.2=true) x lv M): ∃v M',lM Try.prog [] 73 Q73 lv M v M':=by
 refine FC.con h ?_
 obtain⟨⟨g0,rfl,k0⟩,a0⟩:=h
 obtain⟨n,l⟩:=x
 obtain⟨_,rfl,hl⟩:=k0
 obtain⟨a,c,rfl⟩:=aH.form hl
 obtain⟨v,M',h1,h2,_,h3⟩:=w26 n a c l hM hl a0 (fX a0)
 exact⟨v,M',h1,h2,h3⟩
theorem yU:(Try.prog.underlying 29).map dR=some false:=by kernel_rfl
theorem aAU:Try.f92.results= #[.tmp 4]:=by kernel_rfl
theorem w44_0(E c:Nat)(rs:List (List Int))(v:Int)(r:List Int)(ar:Option Addr)(cr:Nat){M:aA}(hM:aB M)(a0:(decide (v<(0:Int)))=true): ∃v_ M',Ev Try.prog [] 92 [aC E 0 rs.length c,i64 v] M v_ M'/\Ext M M'/\aB M'/\v_=eZ/\M'=M:=by
 exact⟨eZ,M,Ev.told_tmp (tb:=[]) (n:=60) (F:=[aP 8,aP 10,aP 12,aP 14,aP 17]) aG aF Try.func92 Oi (by kernel_rfl) aAU (aI Try.prog) (fun _ _=>rfl) (by kernel_rfl) (hw (bT a0) (hw (bT a0) (hk (bT a0) hn))),Ext.refl M,hM,⟨rfl,rfl⟩⟩
theorem w44_1(E c:Nat)(rs:List (List Int))(v:Int)(r:List Int)(ar:Option Addr)(cr:Nat){M:aA}(hM:aB M)(a0:(decide (v<(0:Int)))=false)(a1:(decide (v>=(rs.length:Int)))=true): ∃v_ M',Ev Try.prog [] 92 [aC E 0 rs.length c,i64 v] M v_ M'/\Ext M M'/\aB M'/\v_=eZ/\M'=M:=by
 exact⟨eZ,M,Ev.told_tmp (tb:=[]) (n:=60) (F:=[aO 8,aO 10,aO 12,aO 14,aO 17,aP 18]) aG aF Try.func92 Oi (by kernel_rfl) aAU (aI Try.prog) (fun _ _=>rfl) (by kernel_rfl) (hw (bF a0) (hw (bF a0) (hk (bF a0) (hk (bT a1) hn)))),Ext.refl M,hM,⟨rfl,rfl⟩⟩
theorem w44_2(E c:Nat)(rs:List (List Int))(v:Int)(r:List Int)(ar:Option Addr)(cr:Nat){M:aA}(hM:aB M)(a0:(decide (v<(0:Int)))=false)(a3:(decide (v>=(rs.length:Int)))=false)(a2:0<=(v:Int)/\(v:Int)<rs.length)(a1:bI Try.prog 22 ⟨E,0+(v:Int).toNat*1,none⟩ M=some (.slice ar r.length cr)): ∃v_ M',Ev Try.prog [] 92 [aC E 0 rs.length c,i64 v] M v_ M'/\Ext M M'/\aB M'/\v_=(.slice ar r.length cr)/\M'=M:=by
 exact⟨.slice ar r.length cr,M,Ev.told_tmp (tb:=[]) (n:=60) (F:=[aO 8,aO 10,aO 12,aO 14,aO 17,aO 18,aP 24,aR 26 (.slice ar r.length cr)]) aG aF Try.func92 Oi (by kernel_rfl) aAU (aI Try.prog) (fun _ _=>rfl) (by kernel_rfl) (hw (bF a0) (hw (bF a0) (hk (bF a0) (hk (bF a3) (hk (qI v rs.length a2.1 a2.2) (hk (lD (a1)) hn)))))),Ext.refl M,hM,⟨rfl,rfl⟩⟩
abbrev Q92:=FC (mU bC pI) (plain aL) (fun x=>dP x.1 x.2)
theorem Pa{x:List (List Int)×Int}{lv:List Value}{M:aA}(hM:aB M)(h:(mU bC pI) x lv M): ∃v M',lM Try.prog [] 92 Q92 lv M v M':=by
 refine FC.con h ?_
 obtain⟨g0,g1,rfl,k0,k1⟩:=h
 obtain⟨rs,v⟩:=x
 obtain rfl:=k1
 obtain⟨E,c,rfl⟩:=eV k0
 by_cases h0:v<0
 ·obtain⟨v',M',h1,h2,_,rfl,rfl⟩:=w44_0 E c rs v [] none 0 hM (decide_eq_true h0)
  refine⟨_,_,h1,h2,?_⟩
  show aL (dP rs v) _ _
  rw[show dP rs v= [] by unfold dP;rw[if_neg (by omega)]]
  exact aH.nil none
 ·by_cases h1:v<(rs.length:Int)
  ·have hu:rs[v.toNat]?=some rs[v.toNat]:=List.getElem?_eq_getElem (by omega)
   obtain⟨ar,cr,h2,h3⟩:=De (P:=Try.prog) (ty:=22) k0 hu jU
   obtain⟨v',M',k1,k2,_,rfl,rfl⟩:=w44_2 E c rs v rs[v.toNat] ar cr hM (decide_eq_false h0) (decide_eq_false (by omega)) (by omega) h2
   refine⟨_,_,k1,k2,?_⟩
   show aL (dP rs v) _ _
   rw[show dP rs v=rs[v.toNat] by unfold dP;rw[if_pos (by omega),hu];rfl]
   exact h3
  ·obtain⟨v',M',k1,k2,_,rfl,rfl⟩:=w44_1 E c rs v [] none 0 hM (decide_eq_false h0) (decide_eq_true (by omega))
   refine⟨_,_,k1,k2,?_⟩
   show aL (dP rs v) _ _
   rw[show dP rs v= [] by unfold dP;rw[if_pos (by omega),List.getElem?_eq_none (by omega)];rfl]
   exact aH.nil none
theorem rK77:Try.f77.results= #[.tmp 4]:=by kernel_rfl
theorem w32(ab Eo Ei:Nat)(co ci:Nat)(at_:Option Addr)(ct:Nat)(a8:Option Addr)(a9:Nat)(ad:eR)(v:Int){M:aA}(hM:aB M)(b6:M.get ab=some ⟨[aC Eo 0 ad.out.length co,aC Ei 0 ad.inn.length ci,.slice at_ ad.to.length ct,.slice a8 ad.set.length a9],108,4,0,true⟩)(a4:bC ad.out (aC Eo 0 ad.out.length co) M)(hinn:bC ad.inn (aC Ei 0 ad.inn.length ci) M)(hto:aL ad.to (.slice at_ ad.to.length ct) M)(hset:aL ad.set (.slice a8 ad.set.length a9) M)(b0:rA ad): ∃v_ M',Ev Try.prog [] 77 [pt ab 0,i64 v] M v_ M'/\Ext M M'/\aB M'/\iQ aL (dP ad.out v) M.next v_ M':=by
 obtain⟨w4,N5,M6,p7,l8,e9,b1,a2,b3⟩:=aM (x:=(ad.out,v)) hM Pa (⟨_,_,rfl,AP.Ext (R:=bC) a4 (Ext.refl M),rfl⟩)
 have G3:aL (dP ad.out v) w4 M6:=b3
 obtain⟨a1,c2,b5⟩:=aH.form G3
 subst b5
 have a7:=(Ext.refl M).trans b1
 obtain⟨a6,a0,b7,b8,b2,a3,a5⟩:=zW (P:=Try.prog) (sT:=22) (xT:=22) (elem:=3) (w:=1) (y:=8) a2 (by kernel_rfl) (by kernel_rfl) (by kernel_rfl) (by decide) (by decide) rfl G3 (qD (p:=fun r=>r.length<=1073741824) (fun r hr=>Nat.le_trans (b0.1 r hr).1 (by decide)) (by decide) v) (fun _ _=>rfl)
 have b4:=a7.trans b2
 exact⟨a6,a0,Ev.told_tmp (tb:=[]) (n:=60) (F:=[aR 9 (aC Eo 0 ad.out.length co),bK 13 (.slice a1 (dP ad.out v).length c2) M6,bK 15 a6 a0]) aG aF Try.func77 aAJ (by kernel_rfl) rK77 (fun B=>lQ (gP 92 Q92 (gS _))) (fun _ _=>rfl) (by kernel_rfl) (hk (lO 0 yU b6 rfl) (hq (qC 92 [aC Eo 0 ad.out.length co,i64 v] M (.slice a1 (dP ad.out v).length c2) M6) (aJ rfl p7 l8 e9) (hq (.q (.append [22,22] eZ (.slice a1 (dP ad.out v).length c2) M6) (1,.val a6,a0)) (kS b7 Nat.one_ne_zero) hn))),b4,a3,Tp (a7).next (fun _ _=>rfl) (Nat.le_trans (qD (p:=fun r=>r.length<=400) (fun r hr=>(b0.1 r hr).1) (by decide) v) (by decide)) a5⟩
abbrev Q77:=FC (hZ (mU (eP 108) pI) fun x=>rA x.1) (iQ aL) (fun x=>dP x.1.out x.2)
theorem con77{x:eR×Int}{lv:List Value}{M:aA}(hM:aB M)(h:(hZ (mU (eP 108) pI) fun x:eR×Int=>rA x.1) x lv M): ∃v M',lM Try.prog [] 77 Q77 lv M v M':=by
 refine FC.con h ?_
 obtain⟨⟨g0,g1,rfl,k0,k1⟩,a7⟩:=h
 obtain⟨ad,v⟩:=x
 obtain rfl:=k1
 obtain⟨ab,o,i_,t,s,rfl,a6,a1,a0,a3,a2⟩:=k0
 obtain⟨Eo,co,rfl⟩:=eV a1
 obtain⟨Ei,ci,rfl⟩:=eV a0
 obtain⟨at_,ct,rfl⟩:=aH.form a3
 obtain⟨a4,a5,rfl⟩:=aH.form a2
 obtain⟨v',M',h1,h2,_,h3⟩:=w32 ab Eo Ei co ci at_ ct a4 a5 ad v hM a6 a1 a0 a3 a2 a7
 exact⟨v',M',h1,h2,h3⟩
theorem rK78:Try.f78.results= #[.tmp 4]:=by kernel_rfl
theorem w33(ab Eo Ei:Nat)(co ci:Nat)(at_:Option Addr)(ct:Nat)(a8:Option Addr)(a9:Nat)(ad:eR)(v:Int){M:aA}(hM:aB M)(b6:M.get ab=some ⟨[aC Eo 0 ad.out.length co,aC Ei 0 ad.inn.length ci,.slice at_ ad.to.length ct,.slice a8 ad.set.length a9],108,4,0,true⟩)(hout:bC ad.out (aC Eo 0 ad.out.length co) M)(a4:bC ad.inn (aC Ei 0 ad.inn.length ci) M)(hto:aL ad.to (.slice at_ ad.to.length ct) M)(hset:aL ad.set (.slice a8 ad.set.length a9) M)(b0:rA ad): ∃v_ M',Ev Try.prog [] 78 [pt ab 0,i64 v] M v_ M'/\Ext M M'/\aB M'/\iQ aL (dP ad.inn v) M.next v_ M':=by
 obtain⟨w4,N5,M6,p7,l8,e9,b1,a2,b3⟩:=aM (x:=(ad.inn,v)) hM Pa (⟨_,_,rfl,AP.Ext (R:=bC) a4 (Ext.refl M),rfl⟩)
 have G3:aL (dP ad.inn v) w4 M6:=b3
 obtain⟨a1,c2,b5⟩:=aH.form G3
 subst b5
 have a7:=(Ext.refl M).trans b1
 obtain⟨a6,a0,b7,b8,b2,a3,a5⟩:=zW (P:=Try.prog) (sT:=22) (xT:=22) (elem:=3) (w:=1) (y:=8) a2 (by kernel_rfl) (by kernel_rfl) (by kernel_rfl) (by decide) (by decide) rfl G3 (qD (p:=fun r=>r.length<=1073741824) (fun r hr=>Nat.le_trans (b0.2.1 r hr).1 (by decide)) (by decide) v) (fun _ _=>rfl)
 have b4:=a7.trans b2
 exact⟨a6,a0,Ev.told_tmp (tb:=[]) (n:=60) (F:=[aR 9 (aC Ei 0 ad.inn.length ci),bK 13 (.slice a1 (dP ad.inn v).length c2) M6,bK 15 a6 a0]) aG aF Try.func78 aAK (by kernel_rfl) rK78 (fun B=>lQ (gP 92 Q92 (gS _))) (fun _ _=>rfl) (by kernel_rfl) (hk (lO 1 yU b6 rfl) (hq (qC 92 [aC Ei 0 ad.inn.length ci,i64 v] M (.slice a1 (dP ad.inn v).length c2) M6) (aJ rfl p7 l8 e9) (hq (.q (.append [22,22] eZ (.slice a1 (dP ad.inn v).length c2) M6) (1,.val a6,a0)) (kS b7 Nat.one_ne_zero) hn))),b4,a3,Tp (a7).next (fun _ _=>rfl) (Nat.le_trans (qD (p:=fun r=>r.length<=400) (fun r hr=>(b0.2.1 r hr).1) (by decide) v) (by decide)) a5⟩
abbrev Q78:=FC (hZ (mU (eP 108) pI) fun x=>rA x.1) (iQ aL) (fun x=>dP x.1.inn x.2)
theorem con78{x:eR×Int}{lv:List Value}{M:aA}(hM:aB M)(h:(hZ (mU (eP 108) pI) fun x:eR×Int=>rA x.1) x lv M): ∃v M',lM Try.prog [] 78 Q78 lv M v M':=by
 refine FC.con h ?_
 obtain⟨⟨g0,g1,rfl,k0,k1⟩,a7⟩:=h
 obtain⟨ad,v⟩:=x
 obtain rfl:=k1
 obtain⟨ab,o,i_,t,s,rfl,a6,a1,a0,a3,a2⟩:=k0
 obtain⟨Eo,co,rfl⟩:=eV a1
 obtain⟨Ei,ci,rfl⟩:=eV a0
 obtain⟨at_,ct,rfl⟩:=aH.form a3
 obtain⟨a4,a5,rfl⟩:=aH.form a2
 obtain⟨v',M',h1,h2,_,h3⟩:=w33 ab Eo Ei co ci at_ ct a4 a5 ad v hM a6 a1 a0 a3 a2 a7
 exact⟨v',M',h1,h2,h3⟩
theorem r43(ab bb o m c i sb so k a3:Nat)(s x z:Int)(vo vi vt:Value){M:aA}{M0:aA}(X0:Ext M0 M)(a5:M.get ab=some ⟨[vo,vi,vt,aC sb so k a3],108,4,0,true⟩)(a2:(decide ((i:Int)<(m:Int)))=true)(a0:bI Try.prog 3 ⟨bb,o+((i:Int):Int).toNat*1,none⟩ M0=some (i64 x))(a4:0<=(x:Int)/\(x:Int)<k)(a1:bI Try.prog 3 ⟨sb,so+(x:Int).toNat*1,none⟩ M0=some (i64 z)): ∃T1,Rd Try.prog [] (q99.loopAt 0) Try.f99.ntmps (fr [(0,(pt ab 0)),(5,(i64 s)),(8,(aC bb o m c)),(9,(i64 (m:Int))),(10,(i64 (i:Int)))]) M .normal T1 M/\ [0,5,8,9,10].map T1.get= [some (pt ab 0),some (i64 (Mk s z)),some (aC bb o m c),some (i64 (m:Int)),some (i64 (IntKind.wrap .i64 ((i:Int)+(1:Int))))]:=by
 exact Rd.told (tb:=[]) (n:=60) (F:=[aP 2,aP 4,aR 6 (i64 x),aR 18 (aC sb so k a3),aP 22,aR 24 (i64 z)]) aG aF (aI Try.prog) (fun _ _=>rfl) (by kernel_rfl) (hk (bT a2) (hk (qI (i:Int) m (by omega) (by simp at a2;omega)) (hk (lD (aS X0 a0)) (hk (lO 3 jU a5 rfl) (hk (qI x k a4.1 a4.2) (hk (lD (aS X0 a1)) hn))))))
theorem r43x(ab:Nat)(a:Option Addr)(m c i:Nat)(s:Int){M:aA}(a0:(decide ((i:Int)<(m:Int)))=false): ∃T1,Rd Try.prog [] (q99.loopAt 0) Try.f99.ntmps (fr [(0,(pt ab 0)),(5,(i64 s)),(8,(.slice a m c)),(9,(i64 (m:Int))),(10,(i64 (i:Int)))]) M (.exit 0) T1 M/\ [5].map T1.get= [some (i64 s)]:=by
 exact Rd.told (tb:=[]) (n:=60) (F:=[aO 2]) aG aF (aI Try.prog) (fun _ _=>rfl) (by kernel_rfl) (hk (bF a0) hn)
theorem Zf{ab:Nat}{a a2:Option Addr}{c a1:Nat}{es set:List Int}{vo vi vt:Value}{M:aA}(hM:aB M)(hs:aL es (.slice a es.length c) M)(a4:M.get ab=some ⟨[vo,vi,vt,.slice a2 set.length a1],108,4,0,true⟩)(a0:aL set (.slice a2 set.length a1) M)(hb: ∀j∈es,0<=j/\j<(set.length:Int)):
  ∃M',bN Try.prog [] (q99.loopAt 0) Try.f99.ntmps (fr [(0,pt ab 0),(5,i64 0),(8,.slice a es.length c),(9,i64 es.length),(10,i64 ((0:Nat):Int))]) M (.exit 0) (fr [(5,i64 (eW set es))]) M'/\Ext M M'/\aB M':=by
 have hlen:=hs.len
 obtain⟨_,M',h1,h2,h3,h4⟩:=bN.for (P:=Try.prog) (GL:= []) (b:=q99.loopAt 0) (nt:=Try.f99.ntmps) (id:=0) (σ:=Unit) (n:=es.length) (Inv:=fun i _ M1=>Ext M M1/\aB M1/\True)
  (F:=fun i _=> [(0,pt ab 0),(5,i64 (eW set (es.take i))),(8,.slice a es.length c),(9,i64 es.length),(10,i64 ((i:Nat):Int))])
  (O:=fun _=> [(5,i64 (eW set (es.take es.length)))])
  (by
   rintro i _ M1 hi ⟨X1,a3,_⟩
   obtain⟨bb,o,rfl,_⟩:=cF hs (by omega)
   have ht:es[i]?=some es[i]:=List.getElem?_eq_getElem hi
   have a5:=hb _ (List.getElem_mem hi)
   obtain⟨sb,so,rfl,_⟩:=cF a0 (by omega)
   have hz:set[(es[i]).toNat]?=some set[(es[i]).toNat]:=List.getElem?_eq_getElem (by omega)
   obtain⟨T1,h1,h2⟩:=r43 ab bb o es.length c i sb so set.length a1 (eW set (es.take i)) es[i] set[(es[i]).toNat] vo vi vt (M:=M1) X1 (X1.old a4) (decide_eq_true (by omega)) (kM (P:=Try.prog) (ty:=3) hs ht rfl bV) a5 (kM (P:=Try.prog) (ty:=3) a0 hz rfl bV)
   rw[aX (by omega)] at h2
   refine⟨(),T1,M1,h1,?_,X1,a3,trivial⟩
   rw[List.take_succ_eq_append_getElem hi]
   unfold eW
   rw[List.foldl_append]
   simp only [List.foldl_cons,List.foldl_nil,hz,Option.getD_some]
   exact h2)
  (by
   rintro _ M1 ⟨X1,a3,_⟩
   exact r43x ab a es.length c es.length _ (M:=M1) (decide_eq_false (by omega)))
  es.length 0 (by omega) (s:=()) (M:=M) ⟨Ext.refl M,hM,trivial⟩
 rw[List.take_length] at h1
 exact⟨M',h1,h2,h3⟩
theorem rK99:Try.f99.results= #[.tmp 4]:=by kernel_rfl
theorem w43(ab Eo Ei:Nat)(co ci:Nat)(at_:Option Addr)(ct:Nat)(a1:Option Addr)(a2:Nat)(ad:eR)(ae:Option Addr)(ce:Nat)(es:List Int){M:aA}(hM:aB M)(a4:M.get ab=some ⟨[aC Eo 0 ad.out.length co,aC Ei 0 ad.inn.length ci,.slice at_ ad.to.length ct,.slice a1 ad.set.length a2],108,4,0,true⟩)(hout:bC ad.out (aC Eo 0 ad.out.length co) M)(hinn:bC ad.inn (aC Ei 0 ad.inn.length ci) M)(hto:aL ad.to (.slice at_ ad.to.length ct) M)(a0:aL ad.set (.slice a1 ad.set.length a2) M)(hok:rA ad)(a3:aL es (.slice ae es.length ce) M)(hb: ∀j∈es,0<=j/\j<(ad.set.length:Int)): ∃v_ M',Ev Try.prog [] 99 [pt ab 0,.slice ae es.length ce] M v_ M'/\Ext M M'/\aB M'/\v_=i64 (eW ad.set es):=by
 obtain⟨M1,a5,E3,a6⟩:=Zf hM (AP.Ext (R:=aL) a3 (Ext.refl M)) a4 (AP.Ext (R:=aL) a0 (Ext.refl M)) hb
 have X7:=(Ext.refl M).trans E3
 exact⟨i64 (eW ad.set es),M1,Ev.told_tmp (tb:=[0]) (n:=60) (F:=[aP 7,.blk 10 [0,5,8,9,10] .normal (fr [(5,(i64 (eW ad.set es)))]) M1]) aG aF Try.func99 aAS (by kernel_rfl) rK99 (fun B=>zJ (gS B) 0 a5) (fun _ h=>cD h) (by kernel_rfl) (hk (lN a3.ln) (hq (.blk 0 (.loop (q99.loopAt 0)) Try.f99.ntmps [0,5,8,9,10] [some (pt ab 0),some (i64 0),some (.slice ae es.length ce),some (i64 (es.length:Int)),some (i64 0)] M .normal (fr [(5,(i64 (eW ad.set es)))]) M1) (fP rfl) hn)),X7,a6,rfl⟩
abbrev Q99:=FC (hZ (mU (eP 108) aL) fun x=>rA x.1/\ ∀j∈x.2,0<=j/\j<(x.1.set.length:Int)) (plain pI) (fun x=>eW x.1.set x.2)
theorem Xq{x:eR×List Int}{lv:List Value}{M:aA}(hM:aB M)(h:(hZ (mU (eP 108) aL) fun x:eR×List Int=>rA x.1/\ ∀j∈x.2,0<=j/\j<(x.1.set.length:Int)) x lv M): ∃v M',lM Try.prog [] 99 Q99 lv M v M':=by
 refine FC.con h ?_
 obtain⟨⟨g0,g1,rfl,k0,k1⟩,a7,hb⟩:=h
 obtain⟨ad,es⟩:=x
 obtain⟨ae,ce,rfl⟩:=aH.form k1
 obtain⟨ab,o,i_,t,s,rfl,a6,a1,a0,a3,a2⟩:=k0
 obtain⟨Eo,co,rfl⟩:=eV a1
 obtain⟨Ei,ci,rfl⟩:=eV a0
 obtain⟨at_,ct,rfl⟩:=aH.form a3
 obtain⟨a4,a5,rfl⟩:=aH.form a2
 obtain⟨v',M',h1,h2,_,h3⟩:=w43 ab Eo Ei co ci at_ ct a4 a5 ad ae ce es hM a6 a1 a0 a3 a2 a7 k1 hb
 exact⟨v',M',h1,h2,h3⟩
theorem rK91:Try.f91.results= #[.tmp 4]:=by kernel_rfl
theorem w29(ab Eo Ei:Nat)(co ci:Nat)(at_:Option Addr)(ct:Nat)(d8:Option Addr)(d9:Nat)(ad:eR)(v:Int){M:aA}(hM:aB M)(e5:M.get ab=some ⟨[aC Eo 0 ad.out.length co,aC Ei 0 ad.inn.length ci,.slice at_ ad.to.length ct,.slice d8 ad.set.length d9],108,4,0,true⟩)(c9:bC ad.out (aC Eo 0 ad.out.length co) M)(c7:bC ad.inn (aC Ei 0 ad.inn.length ci) M)(hto:aL ad.to (.slice at_ ad.to.length ct) M)(hset:aL ad.set (.slice d8 ad.set.length d9) M)(b2:rA ad)(a8:eP 108 ad (pt ab 0) M): ∃v_ M',Ev Try.prog [] 91 [pt ab 0,i64 v] M v_ M'/\Ext M M'/\aB M'/\v_=i64 (jX ad v):=by
 obtain⟨R1,a6⟩:=Kz M M []
 have X3:Ext (aA.mk M.blks M.next M.hide []) R1:=by rw[a6];exact Ext.aside (Ext.refl M)
 have g0:R1.log= []:=by rw[a6]
 have f5:=Lg a6 hM
 have a9:=aA.lt_of_get e5
 have g6:=cG a6 e5
 obtain⟨h3,h6,a2,g1,f6,e0,d4,c2,e8⟩:=aM (x:=(ad.out,v)) f5 Pa (⟨_,_,rfl,AP.Ext (R:=bC) (AP.log (R:=bC) c9) X3,rfl⟩)
 have e4:=d4.old g6
 have G9:aL (dP ad.out v) h3 a2:=e8
 obtain⟨a7,c8,b8⟩:=aH.form G9
 subst b8
 have d0:a2.log= []:=by rw[<-e0];exact g0
 have b4:=X3.trans d4
 have b3:=aA.lt_of_get e4
 obtain⟨w23,h7,a3,g2,f7,e1,d5,c3,e9⟩:=aM (x:=(ad,dP ad.out v)) c2 Xq (⟨⟨_,_,rfl,AP.Ext (R:=eP 108) (AP.log (R:=eP 108) a8) b4,G9⟩,b2,qD (p:=fun r=> ∀j∈r,0<=j/\j<(ad.set.length:Int)) (fun r hr=>(b2.1 r hr).2) (fun _ h=>by cases h) v⟩)
 have f4:=d5.old e4
 have b9:w23=(i64 (eW ad.set (dP ad.out v))):=e9
 subst b9
 have d1:a3.log= []:=by rw[<-e1];exact d0
 have b1:=b4.trans d5
 obtain⟨h4,h8,a4,g3,f8,e2,e6,c4,f0⟩:=aM (x:=(ad.inn,v)) c3 Pa (⟨_,_,rfl,AP.Ext (R:=bC) (AP.log (R:=bC) c7) b1,rfl⟩)
 have d6:aL (dP ad.inn v) h4 a4:=f0
 obtain⟨b6,b7,c0⟩:=aH.form d6
 subst c0
 have d2:a4.log= []:=by rw[<-e2];exact d1
 have b5:=b1.trans e6
 obtain⟨h5,h9,a1,g4,f9,e3,e7,c5,f1⟩:=aM (x:=(ad,dP ad.inn v)) c4 Xq (⟨⟨_,_,rfl,AP.Ext (R:=eP 108) (AP.log (R:=eP 108) a8) b5,d6⟩,b2,qD (p:=fun r=> ∀j∈r,0<=j/\j<(ad.set.length:Int)) (fun r hr=>(b2.2.1 r hr).2) (fun _ h=>by cases h) v⟩)
 have c1:h5=(i64 (eW ad.set (dP ad.inn v))):=f1
 subst c1
 have d3:a1.log= []:=by rw[<-e3];exact d2
 have d7:=b5.trans e7
 obtain⟨b0,a5⟩: ∃m:aA,m=(aA.mk a1.blks a1.next a1.hide (a1.log++M.log)):=⟨_,rfl⟩
 have f2:Ext M b0:=by rw[a5];exact Ext.join (Ext.refl M) (d7)
 have c6:aB b0:=by rw[a5];exact c5
 have a0:oT Try.prog [] 60 Try.f91 q91 [pt ab 0,i64 v] M [aR 11 (aC Eo 0 ad.out.length co),bK 15 (.slice a7 (dP ad.out v).length c8) a2,bK 17 (i64 (eW ad.set (dP ad.out v))) a3,aR 27 (aC Ei 0 ad.inn.length ci),bK 31 (.slice b6 (dP ad.inn v).length b7) a4,bK 33 (i64 (eW ad.set (dP ad.inn v))) a1] 4=some (.ret,some (i64 (Mk (eW ad.set (dP ad.out v)) (eW ad.set (dP ad.inn v)))),aA.mk a1.blks a1.next M.hide (a1.log++M.log),[qL 29 ab 0 (aA.mk M.blks M.next M.hide []) (aC Eo 0 ad.out.length co),qC 92 [aC Eo 0 ad.out.length co,i64 v] (aA.mk M.blks M.next M.hide []) (.slice a7 (dP ad.out v).length c8) a2,qC 99 [pt ab 0,.slice a7 (dP ad.out v).length c8] (aA.mk a2.blks a2.next M.hide a2.log) (i64 (eW ad.set (dP ad.out v))) a3,qL 29 ab 1 (aA.mk a3.blks a3.next (aV 3584 [⟨7,1,a2.next,a3.next⟩,⟨6,1,M.next,a2.next⟩,⟨4,1,M.next,M.next⟩]++M.hide) a3.log) (aC Ei 0 ad.inn.length ci),qT (Nat.blt ab M.next),qC 92 [aC Ei 0 ad.inn.length ci,i64 v] (aA.mk a3.blks a3.next M.hide a3.log) (.slice b6 (dP ad.inn v).length b7) a4,qC 99 [pt ab 0,.slice b6 (dP ad.inn v).length b7] (aA.mk a4.blks a4.next M.hide a4.log) (i64 (eW ad.set (dP ad.inn v))) a1,qT (cY [ab] a1.log)]):=by kernel_rfl
 have g5:aA.mk M.blks M.next M.hide []=R1:=a6.symm
 have g7:=pY ((Ext.refl M).hide.trans (b4).hide.symm)
 have g8:=pY ((Ext.refl M).hide.trans (b1).hide.symm)
 have g9:=Jd 3584 [⟨7,1,a2.next,a3.next⟩,⟨6,1,M.next,a2.next⟩,⟨4,1,M.next,M.next⟩] ((Ext.refl M).hide.trans (b1).hide.symm)
 have h0:=pY ((Ext.refl M).hide.trans (b5).hide.symm)
 have h1:=Ew (L:=(a1.log++M.log)) ((Ext.refl M).hide.trans (d7).hide.symm)
 have h2:(aA.mk a1.blks a1.next a1.hide (a1.log++M.log))=b0:=a5.symm
 try rw[g5] at a0
 try rw[g7] at a0
 try rw[g8] at a0
 try rw[g9] at a0
 try rw[h0] at a0
 try rw[h1] at a0
 try rw[h2] at a0
 exact⟨i64 (Mk (eW ad.set (dP ad.out v)) (eW ad.set (dP ad.inn v))),b0,Ev.told_tmp aG aF Try.func91 aAQ (by kernel_rfl) rK91 (fun B=>lQ (gP 99 Q99 (gP 92 Q92 (gS _)))) (fun _ _=>rfl) a0 (hk (lC yU g6 rfl) (hk (aJ rfl g1 f6 e0) (hk (aJ rfl g2 f7 e1) (hk (lC yU (cB.2 ⟨dI (by simp;omega),f4⟩) rfl) (hk (mB a9) (hk (aJ rfl g3 f8 e2) (hk (aJ rfl g4 f9 e3) (hk (eD (by rw[d3];simp<;>omega)) hn)))))))),f2,c6,rfl⟩
abbrev Q91:=FC (hZ (mU (eP 108) pI) fun x=>rA x.1) (plain pI) (fun x=>jX x.1 x.2)
theorem con91{x:eR×Int}{lv:List Value}{M:aA}(hM:aB M)(h:(hZ (mU (eP 108) pI) fun x:eR×Int=>rA x.1) x lv M): ∃v M',lM Try.prog [] 91 Q91 lv M v M':=by
 refine FC.con h ?_
 obtain⟨⟨g0,g1,rfl,k0,k1⟩,a8⟩:=h
 obtain⟨ad,v⟩:=x
 obtain rfl:=k1
 have a3:=k0
 obtain⟨ab,o,i_,t,s,rfl,a7,a1,a0,a4,a2⟩:=k0
 obtain⟨Eo,co,rfl⟩:=eV a1
 obtain⟨Ei,ci,rfl⟩:=eV a0
 obtain⟨at_,ct,rfl⟩:=aH.form a4
 obtain⟨a5,a6,rfl⟩:=aH.form a2
 obtain⟨v',M',h1,h2,_,h3⟩:=w29 ab Eo Ei co ci at_ ct a5 a6 ad v hM a7 a1 a0 a4 a2 a8 a3
 exact⟨v',M',h1,h2,h3⟩
theorem Yo:(Try.prog.underlying 75).map dR=some false:=by kernel_rfl
theorem Nl:(Try.prog.underlying 77).map dR=some true:=by kernel_rfl
theorem Fc:(Try.prog.info? 77).map (·.size)=some 2:=by kernel_rfl
theorem Ts(M:aA): ∀k:Nat,k<32->Go.Am.arun Try.prog [] Bn 1000 90 [.int .u64 (k:Int)] M=some (i64 ((Ir k:Nat):Int),M):=by
 intro k h
 have hc:k=0\/k=1\/k=2\/k=3\/k=4\/k=5\/k=6\/k=7\/k=8\/k=9\/k=10\/k=11\/k=12\/k=13\/k=14\/k=15\/k=16\/k=17\/k=18\/k=19\/k=20\/k=21\/k=22\/k=23\/k=24\/k=25\/k=26\/k=27\/k=28\/k=29\/k=30\/k=31:=by omega
 rcases hc with rfl|rfl|rfl|rfl|rfl|rfl|rfl|rfl|rfl|rfl|rfl|rfl|rfl|rfl|rfl|rfl|rfl|rfl|rfl|rfl|rfl|rfl|rfl|rfl|rfl|rfl|rfl|rfl|rfl|rfl|rfl|rfl<;>(show Go.Am.arun Try.prog [] Bn 1000 90 _ M=_)<;>kernel_rfl
abbrev Q90:=FC (hZ (sU pU) fun k=>k<32) (plain pI) (fun k=>((Ir k:Nat):Int))
theorem con90{k:Nat}{lv:List Value}{M:aA}(hM:aB M)(h:(hZ (sU pU) fun k=>k<32) k lv M): ∃v M',lM Try.prog [] 90 Q90 lv M v M':=by
 refine FC.con h ?_
 obtain⟨⟨g0,rfl,rfl⟩,hk⟩:=h
 exact⟨_,M,Ev.of_spec (fun B=>dC.arun aG aF cP.none 1000 90) (Ts M k hk),Ext.refl M,rfl⟩
theorem rK76:Try.f76.results= #[.tmp 4]:=by kernel_rfl
theorem w21(n ab:Nat)(ad:eR)(v:Int){M:aA}(hM:aB M)(a6:eP 108 ad (pt ab 0) M)(a7:rA ad): ∃v_ M',Ev Try.prog [] 76 [.agg ⟨[i64 (n:Int),pt ab 0]⟩,i64 v] M v_ M'/\Ext M M'/\aB M'/\v_= .bool (jL ad v):=by
 obtain⟨b1,M2,b7,b8,g5,E6,b9⟩:=bE hM ⟨[i64 (n:Int),pt ab 0],77,2,0,true⟩
 have X9:=(Ext.refl M).trans E6
 obtain⟨c4,c6,a0,c2,c0,b5,a8,a4,b0⟩:=aM (x:=(ad,v)) b9 con91 (⟨⟨_,_,rfl,AP.Ext (R:=eP 108) a6 X9,rfl⟩,a7⟩)
 have a2:c4=(i64 (jX ad v)):=b0
 subst a2
 have b3:=X9.trans a8
 obtain⟨c5,c7,a1,c3,c1,b6,a9,a5,b2⟩:=aM (x:=(jX ad v).toNat) a4 con90 (⟨⟨_,rfl,congrArg (Value.int .u64) (wrapU (rS a7 v))⟩,by have:=rS a7 v;omega⟩)
 have a3:c5=(i64 ((Ir (jX ad v).toNat:Nat):Int)):=b2
 subst a3
 have b4:=b3.trans a9
 exact⟨.bool (decide (((Ir (jX ad v).toNat:Nat):Int)>=(2:Int))),a1,Ev.told_tmp (tb:=[]) (n:=60) (F:=[bK 1 (pt b1 0) M2,aR 7 (pt ab 0),bK 11 (i64 (jX ad v)) a0,bK 15 (i64 ((Ir (jX ad v).toNat:Nat):Int)) a1]) aG aF Try.func76 aAI (by kernel_rfl) rK76 (fun B=>lQ (gP 90 Q90 (gP 91 Q91 (gS _)))) (fun _ _=>rfl) (by kernel_rfl) (hq (.eq (eL Try.prog 77 (.agg ⟨[i64 (n:Int),pt ab 0]⟩) M) (1,.val (pt b1 0),M2)) (bP (by rw[<-b7,<-b8];kernel_rfl) Nat.one_ne_zero) (hk (lO 1 Yo g5 rfl) (hq (qC 91 [pt ab 0,i64 v] M2 (i64 (jX ad v)) a0) (aJ rfl c2 c0 b5) (hq (qC 90 [.int .u64 (IntKind.wrap .u64 (jX ad v))] a0 (i64 ((Ir (jX ad v).toNat:Nat):Int)) a1) (aJ rfl c3 c1 b6) hn)))),b4,a5,rfl⟩
abbrev Q76:=FC (hZ (mU (mR 108) pI) fun x=>rA x.1.2) (plain pB) (fun x=>jL x.1.2 x.2)
theorem Si{x:(Nat×eR)×Int}{lv:List Value}{M:aA}(hM:aB M)(h:(hZ (mU (mR 108) pI) fun x:(Nat×eR)×Int=>rA x.1.2) x lv M): ∃v M',lM Try.prog [] 76 Q76 lv M v M':=by
 refine FC.con h ?_
 obtain⟨⟨g0,g1,rfl,k0,k1⟩,a1⟩:=h
 obtain⟨⟨n,ad⟩,v⟩:=x
 obtain rfl:=k1
 obtain⟨p,rfl,a0⟩:=k0
 obtain⟨ab,o,i_,t,s,rfl,gab,hout,hinn,hto,hset⟩:=id a0
 obtain⟨v',M',h1,h2,_,h3⟩:=w21 n ab ad v hM a0 a1
 exact⟨v',M',h1,h2,h3⟩
theorem rK54:Try.f54.results= #[.tmp 4]:=by kernel_rfl
theorem w25(n ab:Nat)(ad:eR)(v:Int){M:aA}(hM:aB M)(a6:eP 108 ad (pt ab 0) M)(c2:rA ad): ∃v_ M',Ev Try.prog [] 54 [.agg ⟨[i64 (n:Int),pt ab 0]⟩,i64 v] M v_ M'/\Ext M M'/\aB M'/\v_=i64 ((dQ ad v:Nat):Int):=by
 obtain⟨b1,M2,d9,e0,g5,E6,e2⟩:=bE hM ⟨[i64 (n:Int),pt ab 0],77,2,0,true⟩
 have X9:=(Ext.refl M).trans E6
 obtain⟨c9,a3⟩:=Kz M2 M2 []
 have d0:=Ow a3 X9
 have c3:c9.log= []:=by rw[a3]
 have b8:=Lg a3 e2
 have a5:=aA.lt_of_get g5
 have d4:=cG a3 g5
 obtain⟨f2,f5,a2,e5,e3,d2,c6,b9,d6⟩:=aM (x:=(ad,v)) b8 con77 (⟨⟨_,_,rfl,AP.Ext (R:=eP 108) (AP.log (R:=eP 108) a6) d0,rfl⟩,c2⟩)
 have e1:=c6.old d4
 have c7:aL (dP ad.out v) f2 a2:=iQ.out (R:=aL) d6
 obtain⟨b2,b4,b6⟩:=aH.form c7
 subst b6
 have a7:=aH.ln c7
 have c4:a2.log= []:=by rw[<-d2];exact c3
 have b0:=d0.trans c6
 obtain⟨f4,f6,a0,e6,e4,d3,d5,c0,d7⟩:=aM (x:=(ad,v)) b9 con78 (⟨⟨_,_,rfl,AP.Ext (R:=eP 108) (AP.log (R:=eP 108) a6) b0,rfl⟩,c2⟩)
 have c8:aL (dP ad.inn v) f4 a0:=iQ.out (R:=aL) d7
 obtain⟨b3,b5,b7⟩:=aH.form c8
 subst b7
 have a8:=aH.ln c8
 have c5:a0.log= []:=by rw[<-d3];exact c4
 have d1:=b0.trans d5
 obtain⟨a9,a4⟩: ∃m:aA,m=(aA.mk a0.blks a0.next a0.hide (a0.log++M2.log)):=⟨_,rfl⟩
 have d8:Ext M a9:=by rw[a4];exact Ext.join (X9) (d1)
 have c1:aB a9:=by rw[a4];exact c0
 have a1:oT Try.prog [] 60 Try.f54 q54 [.agg ⟨[i64 (n:Int),pt ab 0]⟩,i64 v] M [bK 1 (pt b1 0) M2,aR 7 (pt ab 0),bK 11 (.slice b2 (dP ad.out v).length b4) a2,aP 13,aR 17 (pt ab 0),bK 21 (.slice b3 (dP ad.inn v).length b5) a0,aP 23] 4=some (.ret,some (i64 (IntKind.wrap .i64 ((((dP ad.out v).length:Nat):Int)+(((dP ad.inn v).length:Nat):Int)))),aA.mk a0.blks a0.next M2.hide (a0.log++M2.log),[.eq (eL Try.prog 77 (.agg ⟨[i64 (n:Int),pt ab 0]⟩) M) (1,.val (pt b1 0),M2),qL 75 b1 1 (aA.mk M2.blks M2.next M2.hide []) (pt ab 0),qC 77 [pt ab 0,i64 v] (aA.mk M2.blks M2.next M2.hide []) (.slice b2 (dP ad.out v).length b4) a2,.ln b2 (dP ad.out v).length b4,qL 75 b1 1 (aA.mk a2.blks a2.next (aV 32 [⟨3,1,M2.next,a2.next⟩,⟨1,1,M2.next,M2.next⟩]++M2.hide) a2.log) (pt ab 0),qT (Nat.blt b1 M2.next),qC 78 [pt ab 0,i64 v] (aA.mk a2.blks a2.next M2.hide a2.log) (.slice b3 (dP ad.inn v).length b5) a0,.ln b3 (dP ad.inn v).length b5,qT (cY [b1] a0.log)]):=by kernel_rfl
 have e7:aA.mk M2.blks M2.next M2.hide []=c9:=a3.symm
 have e8:=pY ((X9).hide.trans (b0).hide.symm)
 have e9:=Jd 32 [⟨3,1,M2.next,a2.next⟩,⟨1,1,M2.next,M2.next⟩] ((X9).hide.trans (b0).hide.symm)
 have f0:=Ew (L:=(a0.log++M2.log)) ((X9).hide.trans (d1).hide.symm)
 have f1:(aA.mk a0.blks a0.next a0.hide (a0.log++M2.log))=a9:=a4.symm
 try rw[e7] at a1
 try rw[e8] at a1
 try rw[e9] at a1
 try rw[f0] at a1
 try rw[f1] at a1
 exact⟨i64 (IntKind.wrap .i64 ((((dP ad.out v).length:Nat):Int)+(((dP ad.inn v).length:Nat):Int))),a9,Ev.told_tmp aG aF Try.func54 aAy (by kernel_rfl) rK54 (fun B=>lQ (gP 77 Q77 (gP 78 Q78 (gS _)))) (fun _ _=>rfl) a1 (hk (bP (by rw[<-d9,<-e0];kernel_rfl) Nat.one_ne_zero) (hk (lC Yo d4 rfl) (hk (aJ rfl e5 e3 d2) (hk (lN a7) (hk (lC Yo (cB.2 ⟨dI (by simp;omega),e1⟩) rfl) (hk (mB a5) (hk (aJ rfl e6 e4 d3) (hk (lN a8) (hk (eD (by rw[c5];simp<;>omega)) hn))))))))),d8,c1,congrArg i64 (Ep (by have:=tD c2 v;unfold dQ at this;omega))⟩
abbrev Q54:=FC (hZ (mU (mR 108) pI) fun x=>rA x.1.2) (plain pI) (fun x=>((dQ x.1.2 x.2:Nat):Int))
theorem Xj{x:(Nat×eR)×Int}{lv:List Value}{M:aA}(hM:aB M)(h:(hZ (mU (mR 108) pI) fun x:(Nat×eR)×Int=>rA x.1.2) x lv M): ∃v M',lM Try.prog [] 54 Q54 lv M v M':=by
 refine FC.con h ?_
 obtain⟨⟨g0,g1,rfl,k0,k1⟩,a1⟩:=h
 obtain⟨⟨n,ad⟩,v⟩:=x
 obtain rfl:=k1
 obtain⟨p,rfl,a0⟩:=k0
 obtain⟨ab,o,i_,t,s,rfl,gab,hout,hinn,hto,hset⟩:=id a0
 obtain⟨v',M',h1,h2,_,h3⟩:=w25 n ab ad v hM a0 a1
 exact⟨v',M',h1,h2,h3⟩
theorem rK51:Try.f51.results= #[.cell 2 77]:=by kernel_rfl
theorem w20(n:Nat)(al:Option Addr)(cl:Nat)(l:List E4){M:aA}(hM:aB M)(hl:aU l (.slice al l.length cl) M)(e4:eX (n:Int) l=true): ∃v_ M',Ev Try.prog [] 51 [.agg ⟨[i64 (n:Int),.slice al l.length cl]⟩] M v_ M'/\Ext M M'/\aB M'/\iQ (mR 108) (n,iY n l) M.next v_ M':=by
 obtain⟨b1,M2,f9,g0,g5,E6,h3⟩:=bE hM ⟨[i64 (n:Int),.slice al l.length cl],26,2,0,true⟩
 have X9:=(Ext.refl M).trans E6
 obtain⟨b6,a6,a8,c1,e0,d5,c6⟩:=bE h3 ⟨[i64 0,.pointer none],77,2,0,true⟩
 have d4:=mG a8 X9
 have c5:=d5.old g5
 have d7:=X9.trans d5
 have ltb1M24:=aA.lt_of_get c5
 have ltb10M24:=aA.lt_of_get e0
 obtain⟨i2,i3,b3,h9,h4,f7,b7,c7,e5⟩:=aM (x:=(n,l)) c6 con73 (⟨⟨_,rfl,_,rfl,AP.Ext (R:=aU) hl d7⟩,e4⟩)
 have e1:=b7.old c5
 have e2:=b7.old e0
 have d6:eP 108 (iY n l) i2 (cK [(0,a6.next)] b3):=lY e5
 obtain⟨a0,_,_,_,_,c3,_⟩:=id d6
 subst c3
 have d8:=d7.trans b7
 obtain⟨a7,b8,a2,c2,g1,b2,c8⟩:=bE c7 ⟨[i64 0,.pointer none],77,2,0,true⟩
 have b0:=mG a2 d8
 have a3:=fL e1 a2
 have a1:=fL e2 a2
 have e6:=jH (R:=(eP 108)) d6 a2 b2
 have g2:=b2.old e1
 have g3:=b2.old e2
 have f2:=d8.trans b2
 obtain⟨b4,Wn,g4,a4,d9,c9,h6⟩:=aZ (o:=0) (v:=(.agg ⟨[i64 0,pt a0 0]⟩)) (new:= [i64 0,pt a0 0]) f2 b0 c8 Fc g1 rfl rfl (Nat.zero_le _) (Nat.le_of_ble_eq_true rfl) rfl
 have e7:=hJ (R:=(eP 108)) e6 (fun id h _=>a4 id h) (by intro id hh;simp only [bQ] at hh;omega)
 have e3:=(a4 _ a3).trans g2
 have g6:=(a4 _ a1).trans g3
 obtain⟨w57,i4,b9,i0,h5,f8,a5,d0,e8⟩:=aM (x:=((n:Int),l)) c9 Se (⟨_,rfl,_,rfl,AP.Ext (R:=aU) hl d9⟩)
 have e9:=iM (R:=(eP 108)) e7 a5
 have g7:=a5.old e3
 have g8:=a5.old g6
 have g9:=a5.old g4
 have c4:w57=(.bool (eX (n:Int) l)):=e8
 subst c4
 have f4:=d9.trans a5
 obtain⟨b5,q73,h0,a9,f5,d1,h7⟩:=aZ (o:=0) (v:=(i64 (n:Int))) (new:= [i64 (n:Int),pt a0 0]) f4 b0 d0 Jc g9 rfl rfl (Nat.zero_le _) (Nat.le_of_ble_eq_true rfl) rfl
 have f0:=hJ (R:=(eP 108)) e9 (fun id h _=>a9 id h) (by intro id hh;simp only [bQ] at hh;omega)
 have h1:=(a9 _ a1).trans g8
 obtain⟨c0,i1,h2,d3,f6,d2,h8⟩:=aZ (o:=0) (v:=(.agg ⟨[i64 (n:Int),pt a0 0]⟩)) (new:= [i64 (n:Int),pt a0 0]) f5 d4 d1 Fc h1 rfl rfl (Nat.zero_le _) (Nat.le_of_ble_eq_true rfl) rfl
 have f1:=hJ (R:=(eP 108)) f0 (fun id h _=>d3 id h) (by intro id hh;simp only [bQ] at hh;omega)
 exact⟨.agg ⟨[i64 (n:Int),pt a0 0]⟩,c0,Ev.told_cell (tb:=[]) (n:=60) (F:=[bK 1 (pt b1 0) M2,bK 3 (pt b6 0) a6,aR 5 (.agg ⟨[i64 (n:Int),.slice al l.length cl]⟩),bK 7 (pt a0 0) b3,bK 11 (pt a7 0) b8,jJ 13 b4,aR 15 (.agg ⟨[i64 (n:Int),.slice al l.length cl]⟩),bK 17 (.bool (eX (n:Int) l)) b9,aP 18,aR 22 (i64 (n:Int)),jJ 26 b5,aR 28 (.agg ⟨[i64 (n:Int),pt a0 0]⟩),jJ 30 c0]) aG aF Try.func51 aAv (by kernel_rfl) rK51 (fun B=>lQ (gP 73 Q73 (gP 20 Q20 (gS _)))) (fun _ _=>rfl) (by kernel_rfl) (mM (a:=⟨b6,0,none⟩) Nl Fc h2 rfl) (hq (.eq (eL Try.prog 26 (.agg ⟨[i64 (n:Int),.slice al l.length cl]⟩) M) (1,.val (pt b1 0),M2)) (bP (by rw[<-f9,<-g0];kernel_rfl) Nat.one_ne_zero) (hq (.eq (cN Try.prog 77 M2) (1,.val (pt b6 0),a6)) (bP (by rw[<-a8,<-c1];kernel_rfl) Nat.one_ne_zero) (hq (qL 26 b1 0 a6 (.agg ⟨[i64 (n:Int),.slice al l.length cl]⟩)) (lA ⟨Aw,vO⟩ c5 rfl) (hq (qC 73 [.agg ⟨[i64 (n:Int),.slice al l.length cl]⟩] a6 (pt a0 0) b3) (aJ rfl h9 h4 f7) (hq (.eq (cN Try.prog 77 b3) (1,.val (pt a7 0),b8)) (bP (by rw[<-a2,<-c2];kernel_rfl) Nat.one_ne_zero) (hq (qS 77 a7 0 (.agg ⟨[i64 0,pt a0 0]⟩) b8 b4) (dA Wn) (hq (qL 26 b1 0 b4 (.agg ⟨[i64 (n:Int),.slice al l.length cl]⟩)) (lA ⟨Aw,vO⟩ e3 rfl) (hq (qC 20 [.agg ⟨[i64 (n:Int),.slice al l.length cl]⟩] b4 (.bool (eX (n:Int) l)) b9) (aJ rfl i0 h5 f8) (hk (bT e4) (hk (lO 0 bV g7 rfl) (hq (qS 3 a7 0 (i64 (n:Int)) b9 b5) (dA q73) (hq (qL 77 a7 0 b5 (.agg ⟨[i64 (n:Int),pt a0 0]⟩)) (lA ⟨Nl,Fc⟩ h0 rfl) (hq (qS 77 b6 0 (.agg ⟨[i64 (n:Int),pt a0 0]⟩) b5 c0) (dA i1) hn))))))))))))),f6,d2,⟨_,rfl,Gh (R:=eP 108) f1 (by intro id hh;simp only [bQ] at hh;omega)⟩⟩
abbrev Q51:=FC (hZ (sU nT) fun x=>eX (x.1:Int) x.2=true) (iQ (mR 108)) (fun x=>(x.1,iY x.1 x.2))
theorem con51{x:Nat×List E4}{lv:List Value}{M:aA}(hM:aB M)(h:(hZ (sU nT) fun x:Nat×List E4=>eX (x.1:Int) x.2=true) x lv M): ∃v M',lM Try.prog [] 51 Q51 lv M v M':=by
 refine FC.con h ?_
 obtain⟨⟨g0,rfl,k0⟩,a0⟩:=h
 obtain⟨n,l⟩:=x
 obtain⟨_,rfl,hl⟩:=k0
 obtain⟨a,c,rfl⟩:=aH.form hl
 obtain⟨v,M',h1,h2,_,h3⟩:=w20 n a c l hM hl a0
 exact⟨v,M',h1,h2,h3⟩
theorem r24L(b n ab i:Nat)(S:Value)(ad:eR){M M0:aA}(hM:aB M)(X0:Ext M0 M)(gb:M.get b=some ⟨[i64 n,pt ab 0],77,2,0,true⟩)(a0:eP 108 ad (pt ab 0) M0)(a8:rA ad)(a2:(decide ((i:Int)<(n:Int)))=true)(a3:(jL ad (i:Int))=true): ∃T1 M',Rd Try.prog [] (q53.loopAt 0) Try.f53.ntmps (fr [(1,(pt b 0)),(3,S),(6,(i64 (n:Int))),(7,(i64 (i:Int)))]) M .normal T1 M'/\ [1,3,6,7].map T1.get= [some (pt b 0),some S,some (i64 (n:Int)),some (i64 (IntKind.wrap .i64 ((i:Int)+(1:Int))))]/\Ext M0 M'/\aB M'/\M'.get b=some ⟨[i64 (n:Int),pt ab 0],77,2,0,true⟩/\ ∀id k,M.get id=some k->id≠b->M'.get id=some k:=by
 obtain⟨w1,N2,M3,p4,l5,e6,E7,a6,F9⟩:=aM (x:=((n,ad),(i:Int))) hM Si (⟨⟨_,_,rfl,⟨_,rfl,AP.Ext (R:=(eP 108)) a0 X0⟩,rfl⟩,a8⟩)
 have a5:=E7.old gb
 have a4:w1=(.bool (jL ad (i:Int))):=F9
 subst a4
 have a1:=X0.trans E7
 have a7: ∀id k,M.get id=some k->id≠b->M3.get id=some k:=fun id k g h_b=>by
  have g:=E7.old g
  exact g
 obtain⟨T1,h1,h2⟩:=Rd.told (tb:=[]) (n:=60) (F:=[aP 2,aR 8 (.agg ⟨[i64 (n:Int),pt ab 0]⟩),bK 12 (.bool (jL ad (i:Int))) M3,aO 15]) aG aF (fun B=>lQ (gP 76 Q76 (gS _))) (fun _ _=>rfl) (by kernel_rfl) (hk (bT a2) (hq (qL 77 b 0 M (.agg ⟨[i64 (n:Int),pt ab 0]⟩)) (lA ⟨Nl,Fc⟩ gb rfl) (hq (qC 76 [.agg ⟨[i64 (n:Int),pt ab 0]⟩,i64 (i:Int)] M (.bool (jL ad (i:Int))) M3) (aJ rfl p4 l5 e6) (hk (bF (x:=!(jL ad (i:Int))) (by rw[a3];rfl)) hn))))
 exact⟨T1,M3,h1,h2,a1,a6,a5,a7⟩
theorem r24x(b n i:Nat)(S:Value){M:aA}(a0:(decide ((i:Int)<(n:Int)))=false): ∃T1,Rd Try.prog [] (q53.loopAt 0) Try.f53.ntmps (fr [(1,(pt b 0)),(3,S),(6,(i64 (n:Int))),(7,(i64 (i:Int)))]) M (.exit 0) T1 M/\ [3].map T1.get= [some S]:=by
 exact Rd.told (tb:=[]) (n:=60) (F:=[aO 2]) aG aF (aI Try.prog) (fun _ _=>rfl) (by kernel_rfl) (hk (bF a0) hn)
theorem r24N(b n ab i:Nat)(ad:eR){M M0:aA}(hM:aB M)(X0:Ext M0 M)(gb:M.get b=some ⟨[i64 n,pt ab 0],77,2,0,true⟩)(b2:eP 108 ad (pt ab 0) M0)(c7:rA ad)(b7:(decide ((i:Int)<(n:Int)))=true)(b8:(jL ad (i:Int))=false): ∃T1 M' a0,Rd Try.prog [] (q53.loopAt 0) Try.f53.ntmps (fr [(1,(pt b 0)),(3,eZ),(6,(i64 (n:Int))),(7,(i64 (i:Int)))]) M .normal T1 M'/\ [1,3,6,7].map T1.get= [some (pt b 0),some (aC a0 0 1 1),some (i64 (n:Int)),some (i64 (IntKind.wrap .i64 ((i:Int)+(1:Int))))]/\Ext M0 M'/\aB M'/\M'.get b=some ⟨[i64 (n:Int),pt ab 0],77,2,0,true⟩/\M0.next<=a0/\M'.get a0=some ⟨[i64 (i:Int)],3,1,0,true⟩/\ ∀id k,M.get id=some k->id≠b->M'.get id=some k:=by
 obtain⟨w1,N2,M3,p4,l5,e6,E7,c5,F9⟩:=aM (x:=((n,ad),(i:Int))) hM Si (⟨⟨_,_,rfl,⟨_,rfl,AP.Ext (R:=(eP 108)) b2 X0⟩,rfl⟩,c7⟩)
 have c0:=E7.old gb
 have b9:w1=(.bool (jL ad (i:Int))):=F9
 subst b9
 have b5:=X0.trans E7
 obtain⟨a6,a5,a7,a8,c1,a3,b0⟩:=bE c5 ⟨[i64 (i:Int)],3,1,0,true⟩
 have c2:=a3.old c0
 have b4:=b5.trans a3
 obtain⟨a0,a2,a1,a9,c3,a4,b1⟩:=bE b0 ⟨[i64 (i:Int)],3,1,0,true⟩
 have b3:=mG a1 b4
 have c4:=a4.old c2
 have b6:=b4.trans a4
 have c6: ∀id k,M.get id=some k->id≠b->a2.get id=some k:=fun id k g h_b=>by
  have g:=E7.old g
  have g:=a3.old g
  have g:=a4.old g
  exact g
 obtain⟨T1,h1,h2⟩:=Rd.told (tb:=[]) (n:=60) (F:=[aP 2,aR 8 (.agg ⟨[i64 (n:Int),pt ab 0]⟩),bK 12 (.bool (jL ad (i:Int))) M3,aP 15,bK 21 (aC a6 0 1 2) a5,.at 23 (1,.val (aC a0 0 1 1),a2)]) aG aF (fun B=>lQ (gP 76 Q76 (gS _))) (fun _ _=>rfl) (by kernel_rfl) (hk (bT b7) (hq (qL 77 b 0 M (.agg ⟨[i64 (n:Int),pt ab 0]⟩)) (lA ⟨Nl,Fc⟩ gb rfl) (hq (qC 76 [.agg ⟨[i64 (n:Int),pt ab 0]⟩,i64 (i:Int)] M (.bool (jL ad (i:Int))) M3) (aJ rfl p4 l5 e6) (hk (bT (x:=!(jL ad (i:Int))) (by rw[b8];rfl)) (hq (.eq (bH Try.prog 22 1 [(0,(i64 (i:Int)))] M3) (1,.val (aC a6 0 1 2),a5)) (bP (by rw[<-a7,<-a8];kernel_rfl) Nat.one_ne_zero) (hq (.q (.append [22,22] eZ (aC a6 0 1 2) a5) (1,.val (aC a0 0 1 1),a2)) (kS (by rw[<-a1,<-a9];exact append_nil (w:=1) (by kernel_rfl) (by kernel_rfl) (y:=8) (by kernel_rfl) (by decide) (by decide) c1 rfl rfl rfl) Nat.one_ne_zero) hn))))))
 exact⟨T1,a2,a0,h1,h2,b6,b1,c4,b3,c3,c6⟩
theorem r24G(b n ab i:Nat)(ad:eR)(r k:Nat)(cr:List Value){M M0:aA}(hM:aB M)(X0:Ext M0 M)(gb:M.get b=some ⟨[i64 n,pt ab 0],77,2,0,true⟩)(b2:eP 108 ad (pt ab 0) M0)(d1:rA ad)(hr:M0.next<=r)(gr:M.get r=some ⟨cr,3,1,0,true⟩)(c9:b≠r)(b9:(decide ((i:Int)<(n:Int)))=true)(c0:(jL ad (i:Int))=false)(b6:k<1073741824/\(cr).length=k*1): ∃T1 M' a0,Rd Try.prog [] (q53.loopAt 0) Try.f53.ntmps (fr [(1,(pt b 0)),(3,(aC r 0 k k)),(6,(i64 (n:Int))),(7,(i64 (i:Int)))]) M .normal T1 M'/\ [1,3,6,7].map T1.get= [some (pt b 0),some (aC a0 0 (k+1) (k+1)),some (i64 (n:Int)),some (i64 (IntKind.wrap .i64 ((i:Int)+(1:Int))))]/\Ext M0 M'/\aB M'/\M'.get b=some ⟨[i64 (n:Int),pt ab 0],77,2,0,true⟩/\M0.next<=a0/\M'.get a0=some ⟨cr++ [i64 (i:Int)],3,1,0,true⟩/\ ∀id k,M.get id=some k->id≠b->id≠r->M'.get id=some k:=by
 obtain⟨w1,N2,M3,p4,l5,e6,E7,c8,F9⟩:=aM (x:=((n,ad),(i:Int))) hM Si (⟨⟨_,_,rfl,⟨_,rfl,AP.Ext (R:=(eP 108)) b2 X0⟩,rfl⟩,d1⟩)
 have c2:=E7.old gb
 have c3:=E7.old gr
 have c1:w1=(.bool (jL ad (i:Int))):=F9
 subst c1
 have b7:=X0.trans E7
 obtain⟨a6,a5,a7,a8,c4,a3,b0⟩:=bE c8 ⟨[i64 (i:Int)],3,1,0,true⟩
 have b5:=a3.old c2
 have c5:=a3.old c3
 have b4:=b7.trans a3
 obtain⟨a0,a4,a1,a9,c6,b8,b1,a2⟩:=vU b4 hr b0 ⟨cr++ [i64 (i:Int)],3,1,0,true⟩
 have b3:=mG a1 b4
 have c7:=(a2 _ c9 (aA.lt_of_get b5)).trans b5
 have d0: ∀id k,M.get id=some k->id≠b->id≠r->a4.get id=some k:=fun id k g h_b h_r=>by
  have g:=E7.old g
  have g:=a3.old g
  have g:=(a2 id h_r (aA.lt_of_get g)).trans g
  exact g
 obtain⟨T1,h1,h2⟩:=Rd.told (tb:=[]) (n:=60) (F:=[aP 2,aR 8 (.agg ⟨[i64 (n:Int),pt ab 0]⟩),bK 12 (.bool (jL ad (i:Int))) M3,aP 15,bK 21 (aC a6 0 1 2) a5,.at 23 (2,.val (aC a0 0 (k+1) (k+1)),a4)]) aG aF (fun B=>lQ (gP 76 Q76 (gS _))) (fun _ _=>rfl) (by kernel_rfl) (hk (bT b9) (hq (qL 77 b 0 M (.agg ⟨[i64 (n:Int),pt ab 0]⟩)) (lA ⟨Nl,Fc⟩ gb rfl) (hq (qC 76 [.agg ⟨[i64 (n:Int),pt ab 0]⟩,i64 (i:Int)] M (.bool (jL ad (i:Int))) M3) (aJ rfl p4 l5 e6) (hk (bT (x:=!(jL ad (i:Int))) (by rw[c0];rfl)) (hq (.eq (bH Try.prog 22 1 [(0,(i64 (i:Int)))] M3) (1,.val (aC a6 0 1 2),a5)) (bP (by rw[<-a7,<-a8];kernel_rfl) Nat.one_ne_zero) (hq (.q (.append [22,22] (aC r 0 k k) (aC a6 0 1 2) a5) (2,.val (aC a0 0 (k+1) (k+1)),a4)) (kS (by rw[<-a1,<-a9];exact nB (w:=1) (by kernel_rfl) (by kernel_rfl) (by kernel_rfl) (y:=8) (by kernel_rfl) (by decide) (by decide) b6.1 c4 rfl rfl rfl c5 b6.2 rfl rfl rfl rfl) (Nat.succ_ne_zero _)) hn))))))
 exact⟨T1,a4,a0,h1,h2,b8,b1,c7,b3,c6,d0⟩
theorem Yz{b n ab:Nat}{ad:eR}{M:aA}(hM:aB M)(gb:M.get b=some ⟨[i64 n,pt ab 0],77,2,0,true⟩)(a0:eP 108 ad (pt ab 0) M)(a3:rA ad)(hn:n<=60):
  ∃S M',bN Try.prog [] (q53.loopAt 0) Try.f53.ntmps (fr [(1,pt b 0),(3,eZ),(6,i64 n),(7,i64 ((0:Nat):Int))]) M (.exit 0) (fr [(3,S)]) M'/\Ext M M'/\aB M'/\Je M M' S (dL ad n):=by
 have hb:=aA.lt_of_get gb
 obtain⟨S,M',h1,h2,h3,_,h4⟩:=bN.for (P:=Try.prog) (GL:= []) (b:=q53.loopAt 0) (nt:=Try.f53.ntmps) (id:=0) (σ:=Value) (n:=n) (Inv:=fun i S M1=>Ext M M1/\aB M1/\M1.get b=some ⟨[i64 n,pt ab 0],77,2,0,true⟩/\Je M M1 S (dL ad i))
  (F:=fun i S=> [(1,pt b 0),(3,S),(6,i64 n),(7,i64 ((i:Nat):Int))])
  (O:=fun S=> [(3,S)])
  (by
   rintro i S M1 hi ⟨X1,a1,a2,hA⟩
   cases hl:jL ad (i:Int) with
   |true=>
    obtain⟨T1,M2,h1,h2,h3,h4,h5,h6⟩:=r24L b n ab i S ad a1 X1 a2 a0 a3 (decide_eq_true (by omega)) hl
    rw[aX (by omega)] at h2
    refine⟨S,T1,M2,h1,h2,h3,h4,h5,?_⟩
    rw[uU,hl,if_pos rfl,List.append_nil]
    exact hA.keep fun id k hid hg=>h6 id k hg (by omega)
   |false=>
    rw[uU,hl,if_neg (by decide)]
    have hlen:=rY ad i
    rcases hA with⟨rfl,h0⟩|⟨r,rfl,h0,hr,hg⟩
    ·obtain⟨T1,M2,b2,h1,h2,h3,h4,h5,h6,h7,_⟩:=r24N b n ab i ad a1 X1 a2 a0 a3 (decide_eq_true (by omega)) hl
     rw[aX (by omega)] at h2
     exact⟨_,T1,M2,h1,h2,h3,h4,h5,.inr ⟨b2,by rw[h0];rfl,by simp,h6,by rw[h7,h0];rfl⟩⟩
    ·obtain⟨T1,M2,b2,h1,h2,h3,h4,h5,h6,h7,_⟩:=r24G b n ab i ad r (dL ad i).length _ a1 X1 a2 a0 a3 hr hg (by omega) (decide_eq_true (by omega)) hl ⟨by omega,by simp⟩
     rw[aX (by omega)] at h2
     exact⟨_,T1,M2,h1,h2,h3,h4,h5,.inr ⟨b2,by rw[List.length_append];rfl,by simp,h6,by rw[h7,List.map_append];rfl⟩⟩)
  (by
   rintro S M1 ⟨X1,a1,_⟩
   exact r24x b n n S (M:=M1) (decide_eq_false (by omega)))
  n 0 (by omega) (s:=eZ) (M:=M) ⟨Ext.refl M,hM,gb,.inl ⟨rfl,rfl⟩⟩
 exact⟨S,M',h1,h2,h3,h4⟩
theorem rK53:Try.f53.results= #[.tmp 2]:=by kernel_rfl
theorem w24(n ab:Nat)(ad:eR){M:aA}(hM:aB M)(a4:eP 108 ad (pt ab 0) M)(b3:rA ad)(b2:n<=60): ∃v_ M',Ev Try.prog [] 53 [.agg ⟨[i64 (n:Int),pt ab 0]⟩] M v_ M'/\Ext M M'/\aB M'/\iQ aL (dL ad n) M.next v_ M':=by
 obtain⟨b1,M2,a8,a9,g5,E6,b0⟩:=bE hM ⟨[i64 (n:Int),pt ab 0],77,2,0,true⟩
 have X9:=(Ext.refl M).trans E6
 obtain⟨a1,a0,a2,a6,a3,a5⟩:=Yz b0 g5 (AP.Ext (R:=(eP 108)) a4 X9) b3 b2
 have a7:=X9.trans a6
 exact⟨a1,a0,Ev.told_tmp (tb:=[0]) (n:=60) (F:=[bK 1 (pt b1 0) M2,aR 9 (i64 (n:Int)),.blk 12 [1,3,6,7] .normal (fr [(3,a1)]) a0]) aG aF Try.func53 aAx (by kernel_rfl) rK53 (fun B=>zJ (gS B) 0 a2) (fun _ h=>cD h) (by kernel_rfl) (hq (.eq (eL Try.prog 77 (.agg ⟨[i64 (n:Int),pt ab 0]⟩) M) (1,.val (pt b1 0),M2)) (bP (by rw[<-a8,<-a9];kernel_rfl) Nat.one_ne_zero) (hk (lO 0 bV g5 rfl) (hq (.blk 0 (.loop (q53.loopAt 0)) Try.f53.ntmps [1,3,6,7] [some (pt b1 0),some eZ,some (i64 (n:Int)),some (i64 0)] M2 .normal (fr [(3,a1)]) a0) (fP rfl) hn))),a7,a3,Je.new a5 (Nat.le_trans (rY ad n) (by omega)) (X9).next⟩
abbrev Q53:=FC (hZ (sU (mR 108)) fun x=>rA x.2/\x.1<=60) (iQ aL) (fun x=>dL x.2 x.1)
theorem con53{x:Nat×eR}{lv:List Value}{M:aA}(hM:aB M)(h:(hZ (sU (mR 108)) fun x:Nat×eR=>rA x.2/\x.1<=60) x lv M): ∃v M',lM Try.prog [] 53 Q53 lv M v M':=by
 refine FC.con h ?_
 obtain⟨⟨g0,rfl,k0⟩,a1,hn⟩:=h
 obtain⟨n,ad⟩:=x
 obtain⟨p,rfl,a0⟩:=k0
 obtain⟨ab,o,i_,t,s,rfl,gab,hout,hinn,hto,hset⟩:=id a0
 obtain⟨v',M',h1,h2,_,h3⟩:=w24 n ab ad hM a0 a1 hn
 exact⟨v',M',h1,h2,h3⟩
theorem r31(C n ab bb o m c i:Nat)(x z:Int)(cc:List Value)(ad:eR){M M0:aA}(hM:aB M)(X0:Ext M0 M)(hC:M0.next<=C)(gC:M.get C=some ⟨cc,3,1,0,true⟩)(a3:eP 108 ad (pt ab 0) M0)(b6:rA ad)(a7:(decide ((i:Int)<(m:Int)))=true)(a4:bI Try.prog 3 ⟨bb,o+((i:Int):Int).toNat*1,none⟩ M0=some (i64 x))(a1:0<=(((dQ ad x:Nat):Int):Int)/\(((dQ ad x:Nat):Int):Int)<801)(b4:(cc)[0+(((dQ ad x:Nat):Int):Int).toNat*1]?=some (i64 z))(a5:0+(((dQ ad x:Nat):Int):Int).toNat*1+1<=(cc).length): ∃T1 M',Rd Try.prog [] (q75.loopAt 0) Try.f75.ntmps (fr [(1,(.func (.func 54) ⟨[.agg ⟨[i64 (n:Int),pt ab 0]⟩]⟩ ⟨[]⟩)),(5,(aC C 0 801 802)),(9,(aC bb o m c)),(10,(i64 (m:Int))),(11,(i64 (i:Int)))]) M .normal T1 M'/\ [1,5,9,10,11].map T1.get= [some (.func (.func 54) ⟨[.agg ⟨[i64 (n:Int),pt ab 0]⟩]⟩ ⟨[]⟩),some (aC C 0 801 802),some (aC bb o m c),some (i64 (m:Int)),some (i64 (IntKind.wrap .i64 ((i:Int)+(1:Int))))]/\Ext M0 M'/\aB M'/\M'.get C=some ⟨splice cc (0+(((dQ ad x:Nat):Int):Int).toNat*1) [i64 (IntKind.wrap .i64 (z+(1:Int)))],3,1,0,true⟩/\ ∀id k,M.get id=some k->id≠C->M'.get id=some k:=by
 obtain⟨w1,N2,M3,p4,l5,e6,E7,b3,F9⟩:=aM (x:=((n,ad),x)) hM Xj (⟨⟨_,_,rfl,⟨_,rfl,AP.Ext (R:=(eP 108)) a3 X0⟩,rfl⟩,b6⟩)
 have a8:=E7.old gC
 have b1:w1=(i64 ((dQ ad x:Nat):Int)):=F9
 subst b1
 have a9:=X0.trans E7
 obtain⟨a0,b8,b2,a6,b0,a2,b7⟩:=aZ (o:=0+(((dQ ad x:Nat):Int):Int).toNat*1) (v:=(i64 (IntKind.wrap .i64 (z+(1:Int))))) (new:=splice cc (0+(((dQ ad x:Nat):Int):Int).toNat*1) [i64 (IntKind.wrap .i64 (z+(1:Int)))]) a9 hC b3 Jc a8 rfl rfl (Nat.zero_le _) a5 rfl
 have b5: ∀id k,M.get id=some k->id≠C->a0.get id=some k:=fun id k g h_C=>by
  have g:=E7.old g
  have g:=((fun id h _=>a6 id h) id h_C (aA.lt_of_get g)).trans g
  exact g
 obtain⟨T1,h1,h2⟩:=Rd.told (tb:=[]) (n:=60) (F:=[aP 2,aP 4,aR 6 (i64 x),bK 16 (i64 ((dQ ad x:Nat):Int)) M3,aP 18,aR 20 (i64 z),aP 24,jJ 26 a0]) aG aF (fun B=>lQ (gP 54 Q54 (gS _))) (fun _ _=>rfl) (by kernel_rfl) (hk (bT a7) (hk (qI (i:Int) m (by omega) (by simp at a7;omega)) (hk (lD (aS X0 a4)) (hq (qC 54 [.agg ⟨[i64 (n:Int),pt ab 0]⟩,i64 x] M (i64 ((dQ ad x:Nat):Int)) M3) (aJ rfl p4 l5 e6) (hk (qI ((dQ ad x:Nat):Int) 801 a1.1 a1.2) (hq (qL 3 C (0+(((dQ ad x:Nat):Int):Int).toNat*1) M3 (i64 z)) (fF (bG (a:=⟨C,0+(((dQ ad x:Nat):Int):Int).toNat*1,none⟩) bV a8 b4)) (hk (qI ((dQ ad x:Nat):Int) 801 a1.1 a1.2) (hq (qS 3 C (0+(((dQ ad x:Nat):Int):Int).toNat*1) (i64 (IntKind.wrap .i64 (z+(1:Int)))) M3 a0) (dA b8) hn))))))))
 exact⟨T1,a0,h1,h2,b0,a2,b2,b5⟩
theorem r31x(C n ab:Nat)(a:Option Addr)(m c i:Nat){M:aA}(a0:(decide ((i:Int)<(m:Int)))=false): ∃T1,Rd Try.prog [] (q75.loopAt 0) Try.f75.ntmps (fr [(1,(.func (.func 54) ⟨[.agg ⟨[i64 (n:Int),pt ab 0]⟩]⟩ ⟨[]⟩)),(5,(aC C 0 801 802)),(9,(.slice a m c)),(10,(i64 (m:Int))),(11,(i64 (i:Int)))]) M (.exit 0) T1 M/\ [5].map T1.get= [some (aC C 0 801 802)]:=by
 exact Rd.told (tb:=[]) (n:=60) (F:=[aO 2]) aG aF (aI Try.prog) (fun _ _=>rfl) (by kernel_rfl) (hk (bF a0) hn)
theorem Zc{a:Option Addr}{c C n ab:Nat}{ad:eR}{vs:List Int}{M0 M:aA}(hM:aB M)(X:Ext M0 M)(hs:aL vs (.slice a vs.length c) M0)(a0:eP 108 ad (pt ab 0) M0)(a3:rA ad)(hl:vs.length<=60)(hC:M0.next<=C)(gC:M.get C=some ⟨List.replicate 801 (i64 0),3,1,0,true⟩):
  ∃M',bN Try.prog [] (q75.loopAt 0) Try.f75.ntmps (fr [(1,(.func (.func 54) ⟨[.agg ⟨[i64 (n:Int),pt ab 0]⟩]⟩ ⟨[]⟩)),(5,aC C 0 801 802),(9,.slice a vs.length c),(10,i64 vs.length),(11,i64 ((0:Nat):Int))]) M (.exit 0) (fr [(5,aC C 0 801 802)]) M'/\Ext M0 M'/\aB M'/\M'.get C=some ⟨gY (iD ad vs) vs.length 801,3,1,0,true⟩:=by
 obtain⟨_,M',h1,h2,h3,h4⟩:=bN.for (P:=Try.prog) (GL:= []) (b:=q75.loopAt 0) (nt:=Try.f75.ntmps) (id:=0) (σ:=Unit) (n:=vs.length) (Inv:=fun i _ M1=>Ext M0 M1/\aB M1/\M1.get C=some ⟨gY (iD ad vs) i 801,3,1,0,true⟩)
  (F:=fun i _=> [(1,(.func (.func 54) ⟨[.agg ⟨[i64 (n:Int),pt ab 0]⟩]⟩ ⟨[]⟩)),(5,aC C 0 801 802),(9,.slice a vs.length c),(10,i64 vs.length),(11,i64 ((i:Nat):Int))])
  (O:=fun _=> [(5,aC C 0 801 802)])
  (by
   rintro i _ M1 hi ⟨X1,a1,a2⟩
   obtain⟨bb,o,rfl,_⟩:=cF hs (by omega)
   have ht:vs[i]?=some vs[i]:=List.getElem?_eq_getElem hi
   have hk:dQ ad vs[i]=iD ad vs i:=by unfold iD;rw[ht];rfl
   have hle:=tD a3 vs[i]
   have e0:0+(((dQ ad vs[i]:Nat):Int):Int).toNat*1=iD ad vs i:=by rw[hk];simp
   obtain⟨T1,M2,h1,h2,h3,h4,h5,_⟩:=r31 C n ab bb o vs.length c i vs[i] ((iR (iD ad vs) i (iD ad vs i):Nat):Int) _ ad a1 X1 hC a2 a0 a3 (decide_eq_true (by omega)) (kM (P:=Try.prog) (ty:=3) hs ht rfl bV) (by omega) (by rw[e0];exact iS _ _ (by omega)) (by rw[e0,iT];omega)
   rw[aX (by omega)] at h2
   have hc:=Cl (iD ad vs) i (iD ad vs i)
   rw[e0,aX (by omega),uQ _ (by omega)] at h5
   exact⟨(),T1,M2,h1,h2,h3,h4,h5⟩)
  (by
   rintro _ M1 ⟨X1,a1,a2⟩
   exact r31x C n ab a vs.length c vs.length (M:=M1) (decide_eq_false (by omega)))
  vs.length 0 (by omega) (s:=()) (M:=M) ⟨X,hM,by rw[uR];exact gC⟩
 exact⟨M',h1,h2,h3,h4⟩
theorem rK75:Try.f75.results= #[.tmp 4]:=by kernel_rfl
theorem w31(n ab:Nat)(ad:eR)(av:Option Addr)(cv:Nat)(vs:List Int){M:aA}(hM:aB M)(a4:aL vs (.slice av vs.length cv) M)(a2:eP 108 ad (pt ab 0) M)(b2:rA ad)(a3:vs.length<=60): ∃v_ M',Ev Try.prog [] 75 [.slice av vs.length cv,.func (.func 54) ⟨[.agg ⟨[i64 (n:Int),pt ab 0]⟩]⟩ ⟨[]⟩] M v_ M'/\Ext M M'/\aB M'/\iQ uV (gT ad vs) M.next v_ M':=by
 obtain⟨b1,M2,a7,a8,g5,E6,b0⟩:=sJ (P:=Try.prog) (t:=22) (elem:=3) (z:=(i64 0)) (n:=801) hM (by kernel_rfl) (by kernel_rfl) (by decide)
 have a5:M.next<=b1:=by rw[<-a7];exact(Ext.refl M).next
 have X8:=(Ext.refl M).trans E6
 obtain⟨M9,a0,a6,a1,a9⟩:=Zc b0 X8 a4 a2 b2 a3 a5 g5
 exact⟨aC b1 0 801 802,M9,Ev.told_tmp (tb:=[0]) (n:=60) (F:=[bK 3 (aC b1 0 801 802) M2,aP 9,.blk 12 [1,5,9,10,11] .normal (fr [(5,(aC b1 0 801 802))]) M9]) aG aF Try.func75 aAH (by kernel_rfl) rK75 (fun B=>zJ (gS B) 0 a0) (fun _ h=>cD h) (by kernel_rfl) (hq (.eq (bU Try.prog 22 (i64 801) (i64 801) M) (1,.val (aC b1 0 801 802),M2)) (bP a8 Nat.one_ne_zero) (hk (lN a4.ln) (hq (.blk 0 (.loop (q75.loopAt 0)) Try.f75.ntmps [1,5,9,10,11] [some (.func (.func 54) ⟨[.agg ⟨[i64 (n:Int),pt ab 0]⟩]⟩ ⟨[]⟩),some (aC b1 0 801 802),some (.slice av vs.length cv),some (i64 (vs.length:Int)),some (i64 0)] M2 .normal (fr [(5,(aC b1 0 801 802))]) M9) (fP rfl) hn))),a6,a1,aH.of_blk' (b:=b1) (w:=1) (g:=Nr) (jV a5 a9) (by simp [gT]) (by simp [gT,gY,Ac,List.map_map,Function.comp_def]) (fun _ _=>rfl) (by simp [gT])⟩
abbrev Q75:=FC (hZ (mU aL (Dt 54 108)) fun x=>rA x.2.2/\x.1.length<=60) (iQ uV) (fun x=>gT x.2.2 x.1)
theorem con75{x:List Int×Nat×eR}{lv:List Value}{M:aA}(hM:aB M)(h:(hZ (mU aL (Dt 54 108)) fun x:List Int×Nat×eR=>rA x.2.2/\x.1.length<=60) x lv M): ∃v M',lM Try.prog [] 75 Q75 lv M v M':=by
 refine FC.con h ?_
 obtain⟨⟨g0,g1,rfl,k0,k1⟩,a1,hl⟩:=h
 obtain⟨vs,n,ad⟩:=x
 obtain⟨av,cv,rfl⟩:=aH.form k0
 obtain⟨s,rfl,p,rfl,a0⟩:=k1
 obtain⟨ab,o,i_,t,s,rfl,gab,hout,hinn,hto,hset⟩:=id a0
 obtain⟨v',M',h1,h2,_,h3⟩:=w31 n ab ad av cv vs hM k0 a0 a1 hl
 exact⟨v',M',h1,h2,h3⟩
theorem r30(D E bb o m c i k q z:Nat)(cd ce:List Value){M M0:aA}(hM:aB M)(X0:Ext M0 M)(hE:M0.next<=E)(gD:M.get D=some ⟨cd,3,1,0,true⟩)(gE:M.get E=some ⟨ce,22,1,0,true⟩)(a5:D≠E)(a0:(decide ((i:Int)<(m:Int)))=true)(a1:bI Try.prog 3 ⟨bb,o+((i:Int):Int).toNat*1,none⟩ M0=some (i64 (z:Int)))(a3:q<=(q+z)/\(q+z)<=k)(a7:(IntKind.wrap .i64 ((q:Int)+(z:Int)))=(((q+z):Nat):Int))(a2:0+((i:Int):Int).toNat*1+1<=(ce).length): ∃T1 M',Rd Try.prog [] (q74.loopAt 0) Try.f74.ntmps (fr [(0,(aC D 0 k (k+1))),(5,(aC E 0 m (m+1))),(6,(i64 (q:Int))),(12,(aC bb o m c)),(13,(i64 (m:Int))),(14,(i64 (i:Int)))]) M .normal T1 M'/\ [0,5,6,12,13,14].map T1.get= [some (aC D 0 k (k+1)),some (aC E 0 m (m+1)),some (i64 (IntKind.wrap .i64 ((q:Int)+(z:Int)))),some (aC bb o m c),some (i64 (m:Int)),some (i64 (IntKind.wrap .i64 ((i:Int)+(1:Int))))]/\Ext M0 M'/\aB M'/\M'.get D=some ⟨cd,3,1,0,true⟩/\M'.get E=some ⟨splice ce (0+((i:Int):Int).toNat*1) [aC D (0+q) 0 ((q+z)-q+1)],22,1,0,true⟩/\ ∀id k,M.get id=some k->id≠D->id≠E->M'.get id=some k:=by
 obtain⟨M1,q2,g3,a4,X5,a6,a9⟩:=aZ (o:=0+((i:Int):Int).toNat*1) (v:=(aC D (0+q) 0 ((q+z)-q+1))) (new:=splice ce (0+((i:Int):Int).toNat*1) [aC D (0+q) 0 ((q+z)-q+1)]) X0 hE hM Nm gE rfl rfl (Nat.zero_le _) a2 rfl
 have g8:=(a4 _ a5).trans gD
 have a8: ∀id k,M.get id=some k->id≠D->id≠E->M1.get id=some k:=fun id k g h_D h_E=>by
  have g:=((fun id h _=>a4 id h) id h_E (aA.lt_of_get g)).trans g
  exact g
 obtain⟨T1,h1,h2⟩:=Rd.told (tb:=[]) (n:=60) (F:=[aP 2,aP 6,aR 8 (i64 (z:Int)),aR 30 (aC D (0+q) 0 ((q+z)-q+1)),aP 32,jJ 34 M1]) aG aF (aI Try.prog) (fun _ _=>rfl) (by kernel_rfl) (hk (bT a0) (hk (qI (i:Int) m (by omega) (by simp at a0;omega)) (hk (lD (aS X0 a1)) (hq (.q (.slice 22 (aC D 0 k (k+1)) (some (i64 (q:Int))) (some (i64 (q:Int))) (some (i64 (IntKind.wrap .i64 ((q:Int)+(z:Int))))) M) (1,.val (aC D (0+q) 0 ((q+z)-q+1)),Dn)) (⟨_,rfl,(by rw[a7];exact Mc (by kernel_rfl) (elem:=3) (by kernel_rfl) gD rfl a3.1 a3.2)⟩) (hk (qI (i:Int) m (by omega) (by simp at a0;omega)) (hq (qS 22 E (0+((i:Int):Int).toNat*1) (aC D (0+q) 0 ((q+z)-q+1)) M M1) (dA q2) hn))))))
 exact⟨T1,M1,h1,h2,X5,a6,g8,g3,a8⟩
theorem r30x(D E:Nat)(a:Option Addr)(m c i k q:Nat){M:aA}(a0:(decide ((i:Int)<(m:Int)))=false): ∃T1,Rd Try.prog [] (q74.loopAt 0) Try.f74.ntmps (fr [(0,(aC D 0 k (k+1))),(5,(aC E 0 m (m+1))),(6,(i64 (q:Int))),(12,(.slice a m c)),(13,(i64 (m:Int))),(14,(i64 (i:Int)))]) M (.exit 0) T1 M/\ [5].map T1.get= [some (aC E 0 m (m+1))]:=by
 exact Rd.told (tb:=[]) (n:=60) (F:=[aO 2]) aG aF (aI Try.prog) (fun _ _=>rfl) (by kernel_rfl) (hk (bF a0) hn)
theorem Zb{a:Option Addr}{c D E k:Nat}{sz:List Nat}{cd:List Value}{M0 M:aA}(hM:aB M)(X:Ext M0 M)(hs:uV sz (.slice a sz.length c) M0)(hl:sz.length<=801)(hk:dS (oN sz) sz.length<=k)(hk60:k<=60)(hE:M0.next<=E)(gD:M.get D=some ⟨cd,3,1,0,true⟩)(gE:M.get E=some ⟨List.replicate sz.length eZ,22,1,0,true⟩)(a4:D≠E):
  ∃M',bN Try.prog [] (q74.loopAt 0) Try.f74.ntmps (fr [(0,aC D 0 k (k+1)),(5,aC E 0 sz.length (sz.length+1)),(6,i64 ((0:Nat):Int)),(12,.slice a sz.length c),(13,i64 sz.length),(14,i64 ((0:Nat):Int))]) M (.exit 0) (fr [(5,aC E 0 sz.length (sz.length+1))]) M'/\Ext M0 M'/\aB M'/\M'.get E=some ⟨dN D (oN sz) (fun _=>0) sz.length,22,1,0,true⟩:=by
 have a3:=fV D (oN sz) (fun _=>0) sz.length
 obtain⟨_,M',h1,h2,h3,_,h6⟩:=bN.for (P:=Try.prog) (GL:= []) (b:=q74.loopAt 0) (nt:=Try.f74.ntmps) (id:=0) (σ:=Unit) (n:=sz.length) (Inv:=fun i _ M1=>Ext M0 M1/\aB M1/\M1.get D=some ⟨cd,3,1,0,true⟩/\M1.get E=some ⟨sI (dN D (oN sz) (fun _=>0) sz.length) i eZ,22,1,0,true⟩)
  (F:=fun i _=> [(0,aC D 0 k (k+1)),(5,aC E 0 sz.length (sz.length+1)),(6,i64 ((dS (oN sz) i:Nat):Int)),(12,.slice a sz.length c),(13,i64 sz.length),(14,i64 ((i:Nat):Int))])
  (O:=fun _=> [(5,aC E 0 sz.length (sz.length+1))])
  (by
   rintro i _ M1 hi ⟨X1,a0,a5,a6⟩
   have a1:aL (sz.map fun k=>((k:Nat):Int)) (.slice a sz.length c) M0:=hs
   obtain⟨bb,o,rfl,_⟩:=cF a1 (by simp;omega)
   have hnx:=oG (oN sz) hi
   have hz:(sz.map fun k=>((k:Nat):Int))[i]?=some ((oN sz i:Nat):Int):=by simp [oN,hi]
   have e0:0+((i:Int):Int).toNat*1=i:=by simp
   have ew:=Ep (i:=dS (oN sz) i) (j:=oN sz i) (by omega)
   obtain⟨T1,M2,h1,h2,h3,h4,h6,h7,_⟩:=r30 D E bb o sz.length c i k (dS (oN sz) i) (oN sz i) _ _ a0 X1 hE a5 a6 a4 (decide_eq_true (by omega)) (kM (P:=Try.prog) (ty:=3) a1 hz rfl bV) ⟨by omega,by omega⟩ ew (by rw[e0,tX _ _ (by omega)];omega)
   rw[aX (by omega),ew] at h2
   have a2:=vQ (z:=eZ) (hQ D (oN sz) (fun _=>0) hi)
   simp only [Aa] at a2
   rw[e0,Nat.zero_add,Nat.add_sub_cancel_left,a2] at h7
   exact⟨(),T1,M2,h1,h2,h3,h4,h6,h7⟩)
  (by
   rintro _ M1 ⟨X1,a0,_⟩
   exact r30x D E a sz.length c sz.length k _ (M:=M1) (decide_eq_false (by omega)))
  sz.length 0 (by omega) (s:=()) (M:=M) ⟨X,hM,gD,by rw[vR,a3];exact gE⟩
 refine⟨M',h1,h2,h3,?_⟩
 have:=yV (dN D (oN sz) (fun _=>0) sz.length) eZ
 rw[a3] at this
 rw[this] at h6
 exact h6
theorem rK74:Try.f74.results= #[.tmp 4]:=by kernel_rfl
theorem w30(D k:Nat)(cd:List Value)(az:Option Addr)(cz:Nat)(sz:List Nat){M:aA}(hM:aB M)(gD:M.get D=some ⟨cd,3,1,0,true⟩)(a5:uV sz (.slice az sz.length cz) M)(b4:sz.length<=801)(b3:dS (oN sz) sz.length<=k)(a4:k<=60): ∃v_ M',Ev Try.prog [] 74 [aC D 0 k (k+1),.slice az sz.length cz] M v_ M'/\Ext M M'/\aB M'/\Oh ((D,k),sz) M.next v_ M':=by
 obtain⟨b1,M2,a6,a9,g5,E6,b2⟩:=sJ (P:=Try.prog) (t:=29) (elem:=22) (z:=eZ) (n:=sz.length) hM (by kernel_rfl) (by kernel_rfl) (by omega)
 have a7:M.next<=b1:=by rw[<-a6];exact(Ext.refl M).next
 have a1:=fL gD a6
 have g8:=E6.old gD
 have X9:=(Ext.refl M).trans E6
 obtain⟨a0,a2,a8,a3,b0⟩:=Zb b2 X9 a5 b4 b3 a4 a7 g8 g5 a1
 exact⟨aC b1 0 sz.length (sz.length+1),a0,Ev.told_tmp (tb:=[0]) (n:=60) (F:=[aP 5,bK 7 (aC b1 0 sz.length (sz.length+1)) M2,aP 15,.blk 18 [0,5,6,12,13,14] .normal (fr [(5,(aC b1 0 sz.length (sz.length+1)))]) a0]) aG aF Try.func74 aAG (by kernel_rfl) rK74 (fun B=>zJ (gS B) 0 a2) (fun _ h=>cD h) (by kernel_rfl) (hq (.ln az sz.length cz) (lN (aH.ln (l:=sz.map fun k=>((k:Nat):Int)) a5)) (hq (.eq (bU Try.prog 29 (i64 (sz.length:Int)) (i64 (sz.length:Int)) M) (1,.val (aC b1 0 sz.length (sz.length+1)),M2)) (bP a9 Nat.one_ne_zero) (hq (.ln az sz.length cz) (lN (aH.ln (l:=sz.map fun k=>((k:Nat):Int)) a5)) (hq (.blk 0 (.loop (q74.loopAt 0)) Try.f74.ntmps [0,5,6,12,13,14] [some (aC D 0 k (k+1)),some (aC b1 0 sz.length (sz.length+1)),some (i64 0),some (.slice az sz.length cz),some (i64 (sz.length:Int)),some (i64 0)] M2 .normal (fr [(5,(aC b1 0 sz.length (sz.length+1)))]) a0) (fP rfl) hn)))),a8,a3,⟨b1,rfl,a7,b0⟩⟩
abbrev Q74:=FC (hZ (mU Wj uV) fun x=>x.2.length<=801/\dS (oN x.2) x.2.length<=x.1.2/\x.1.2<=60) Oh id
theorem Xo{x:(Nat×Nat)×List Nat}{lv:List Value}{M:aA}(hM:aB M)(h:(hZ (mU Wj uV) fun x:(Nat×Nat)×List Nat=>x.2.length<=801/\dS (oN x.2) x.2.length<=x.1.2/\x.1.2<=60) x lv M): ∃v M',lM Try.prog [] 74 Q74 lv M v M':=by
 refine FC.con h ?_
 obtain⟨⟨g0,g1,rfl,k0,k1⟩,h1,h2,h3⟩:=h
 obtain⟨⟨D,k⟩,sz⟩:=x
 obtain⟨rfl,cd,gD⟩:=k0
 obtain⟨az,cz,e⟩:=aH.form (l:=sz.map fun k=>((k:Nat):Int)) k1
 rw[List.length_map] at e
 subst e
 obtain⟨v',M',q1,q2,_,q3⟩:=w30 D k cd az cz sz hM gD k1 h1 h2 h3
 exact⟨v',M',q1,q2,q3⟩
end Go.Proofs.Ytdaglldahidmbaa
