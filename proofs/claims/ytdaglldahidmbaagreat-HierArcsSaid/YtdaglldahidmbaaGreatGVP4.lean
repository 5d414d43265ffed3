/-
  Package hier: each of its laws for every argument; no conditions. The last text states which.
-/
import Derived.Test.YtdaglldahidmbaaGreatGVP1
import Derived.Test.YtdaglldahidmbaaGreatGAmBk
set_option linter.unusedVariables false
set_option linter.unusedSimpArgs false
open Go Go.Am Go.Proofs Tryz
namespace Go.Proofs.YtdaglldahidmbaaGreat
set_option maxRecDepth 100000
theorem jW:(prog.underlying 22).map dV=some false:=by kernel_rfl
theorem Nv:(prog.info? 22).map (·.size)=some 1:=by kernel_rfl
theorem rA45(C n bb o m c i:Nat)(x z:Int)(cc:List Value){M M0:aB}(hM:aA M)(X0:Ext M0 M)(hC:M0.next<=C)(gC:M.get C=some ⟨cc,3,1,0,true⟩)(a3:(decide ((i:Int)<(m:Int)))=true)(a1:bA prog 3 ⟨bb,o+((i:Int):Int).toNat*1,none⟩ M0=some (i64 x))(a0:0<=(x:Int)/\(x:Int)<n)(a5:(cc)[0+(x:Int).toNat*1]?=some (i64 z))(a2:0+(x:Int).toNat*1+1<=(cc).length): ∃T1 M',Rd prog [] (q109.loopAt 0) Tryz.f109.ntmps (fr [(0,(i64 (n:Int))),(1,(aC bb o m c)),(5,(aC C 0 n (n+1))),(15,(aC bb o m c)),(16,(i64 (m:Int))),(17,(i64 (i:Int)))]) M .normal T1 M'/\ [0,1,5,15,16,17].map T1.get= [some (i64 (n:Int)),some (aC bb o m c),some (aC C 0 n (n+1)),some (aC bb o m c),some (i64 (m:Int)),some (i64 (IntKind.wrap .i64 ((i:Int)+(1:Int))))]/\Ext M0 M'/\aA M'/\M'.get C=some ⟨splice cc (0+(x:Int).toNat*1) [i64 (IntKind.wrap .i64 (z+(1:Int)))],3,1,0,true⟩/\ ∀id k,M.get id=some k->id≠C->M'.get id=some k:=by
 obtain⟨M1,q2,g3,a7,X5,a4,a8⟩:=aZ (o:=0+(x:Int).toNat*1) (v:=(i64 (IntKind.wrap .i64 (z+(1:Int))))) (new:=splice cc (0+(x:Int).toNat*1) [i64 (IntKind.wrap .i64 (z+(1:Int)))]) X0 hC hM Jj gC rfl rfl (Nat.zero_le _) a2 rfl
 have a6: ∀id k,M.get id=some k->id≠C->M1.get id=some k:=fun id k g h_C=>by
  have g:=((fun id h _=>a7 id h) id h_C (aB.lt_of_get g)).trans g
  exact g
 obtain⟨T1,h1,h2⟩:=Rd.told (tb:=[]) (n:=60) (F:=[aQ 2,aQ 4,aR 6 (i64 x),aQ 14,aR 16 (i64 z),aQ 20,jE 22 M1]) aG aF (aI prog) (fun _ _=>rfl) (by kernel_rfl) (hk (bT a3) (hk (qI (i:Int) m (by omega) (by simp at a3;omega)) (hk (lD (aN X0 a1)) (hk (qI x n a0.1 a0.2) (hq (qL 3 C (0+(x:Int).toNat*1) M (i64 z)) (eO (bI (a:=⟨C,0+(x:Int).toNat*1,none⟩) bQ gC a5)) (hk (qI x n a0.1 a0.2) (hq (qS 3 C (0+(x:Int).toNat*1) (i64 (IntKind.wrap .i64 (z+(1:Int)))) M M1) (dB q2) hn)))))))
 exact⟨T1,M1,h1,h2,X5,a4,g3,a6⟩
theorem rA45x(C n:Nat)(a:Option Addr)(m c i:Nat){M:aB}(a0:(decide ((i:Int)<(m:Int)))=false): ∃T1,Rd prog [] (q109.loopAt 0) Tryz.f109.ntmps (fr [(0,(i64 (n:Int))),(1,(.slice a m c)),(5,(aC C 0 n (n+1))),(15,(.slice a m c)),(16,(i64 (m:Int))),(17,(i64 (i:Int)))]) M (.exit 0) T1 M/\ [0,1,5].map T1.get= [some (i64 (n:Int)),some (.slice a m c),some (aC C 0 n (n+1))]:=by
 exact Rd.told (tb:=[]) (n:=60) (F:=[aO 2]) aG aF (aI prog) (fun _ _=>rfl) (by kernel_rfl) (hk (bF a0) hn)
theorem rB45(C D E n k q z i:Nat)(cc cd ce:List Value){M M0:aB}(hM:aA M)(X0:Ext M0 M)(hE:M0.next<=E)(gC:M.get C=some ⟨cc,3,1,0,true⟩)(gD:M.get D=some ⟨cd,3,1,0,true⟩)(gE:M.get E=some ⟨ce,22,1,0,true⟩)(a4:C≠E)(a5:D≠E)(a0:(decide ((i:Int)<(n:Int)))=true)(a7:(cc)[0+((i:Int):Int).toNat*1]?=some (i64 (z:Int)))(a3:q<=(q+z)/\(q+z)<=k)(a8:(IntKind.wrap .i64 ((q:Int)+(z:Int)))=(((q+z):Nat):Int))(a1:0+((i:Int):Int).toNat*1+1<=(ce).length): ∃T1 M',Rd prog [] (q109.loopAt 2) Tryz.f109.ntmps (fr [(8,(aC D 0 k (k+1))),(9,(aC E 0 n (n+1))),(10,(i64 (q:Int))),(33,(aC C 0 n (n+1))),(34,(i64 (n:Int))),(35,(i64 (i:Int)))]) M .normal T1 M'/\ [8,9,10,33,34,35].map T1.get= [some (aC D 0 k (k+1)),some (aC E 0 n (n+1)),some (i64 (IntKind.wrap .i64 ((q:Int)+(z:Int)))),some (aC C 0 n (n+1)),some (i64 (n:Int)),some (i64 (IntKind.wrap .i64 ((i:Int)+(1:Int))))]/\Ext M0 M'/\aA M'/\M'.get C=some ⟨cc,3,1,0,true⟩/\M'.get D=some ⟨cd,3,1,0,true⟩/\M'.get E=some ⟨splice ce (0+((i:Int):Int).toNat*1) [aC D (0+q) 0 ((q+z)-q+1)],22,1,0,true⟩/\ ∀id k,M.get id=some k->id≠C->id≠D->id≠E->M'.get id=some k:=by
 obtain⟨M1,q2,g3,a2,X5,a6,b0⟩:=aZ (o:=0+((i:Int):Int).toNat*1) (v:=(aC D (0+q) 0 ((q+z)-q+1))) (new:=splice ce (0+((i:Int):Int).toNat*1) [aC D (0+q) 0 ((q+z)-q+1)]) X0 hE hM Nv gE rfl rfl (Nat.zero_le _) a1 rfl
 have g8:=(a2 _ a4).trans gC
 have g9:=(a2 _ a5).trans gD
 have a9: ∀id k,M.get id=some k->id≠C->id≠D->id≠E->M1.get id=some k:=fun id k g h_C h_D h_E=>by
  have g:=((fun id h _=>a2 id h) id h_E (aB.lt_of_get g)).trans g
  exact g
 obtain⟨T1,h1,h2⟩:=Rd.told (tb:=[]) (n:=60) (F:=[aQ 2,aQ 6,aR 8 (i64 (z:Int)),aR 30 (aC D (0+q) 0 ((q+z)-q+1)),aQ 32,jE 34 M1]) aG aF (aI prog) (fun _ _=>rfl) (by kernel_rfl) (hk (bT a0) (hk (qI (i:Int) n (by omega) (by simp at a0;omega)) (hq (qL 3 C (0+((i:Int):Int).toNat*1) M (i64 (z:Int))) (eO (bI (a:=⟨C,0+((i:Int):Int).toNat*1,none⟩) bQ gC a7)) (hq (.q (.slice 22 (aC D 0 k (k+1)) (some (i64 (q:Int))) (some (i64 (q:Int))) (some (i64 (IntKind.wrap .i64 ((q:Int)+(z:Int))))) M) (1,.val (aC D (0+q) 0 ((q+z)-q+1)),Dt)) (⟨_,rfl,(by rw[a8];exact Ml (by kernel_rfl) (elem:=3) (by kernel_rfl) gD rfl a3.1 a3.2)⟩) (hk (qI (i:Int) n (by omega) (by simp at a0;omega)) (hq (qS 22 E (0+((i:Int):Int).toNat*1) (aC D (0+q) 0 ((q+z)-q+1)) M M1) (dB q2) hn))))))
 exact⟨T1,M1,h1,h2,X5,a6,g8,g9,g3,a9⟩
theorem rB45x(C D E n k q i:Nat){M:aB}(a0:(decide ((i:Int)<(n:Int)))=false): ∃T1,Rd prog [] (q109.loopAt 2) Tryz.f109.ntmps (fr [(8,(aC D 0 k (k+1))),(9,(aC E 0 n (n+1))),(10,(i64 (q:Int))),(33,(aC C 0 n (n+1))),(34,(i64 (n:Int))),(35,(i64 (i:Int)))]) M (.exit 2) T1 M/\ [9].map T1.get= [some (aC E 0 n (n+1))]:=by
 exact Rd.told (tb:=[]) (n:=60) (F:=[aO 2]) aG aF (aI prog) (fun _ _=>rfl) (by kernel_rfl) (hk (bF a0) hn)
theorem Wl{a:Option Addr}{c C n:Nat}{a0:List Int}{M0 M:aB}(hM:aA M)(X:Ext M0 M)(hs:aH a0 (.slice a a0.length c) M0)(hb: ∀x∈a0,0<=x/\x<(n:Int))(hl:a0.length<=400)(hC:M0.next<=C)(gC:M.get C=some ⟨List.replicate n (i64 0),3,1,0,true⟩):
  ∃M',bL prog [] (q109.loopAt 0) Tryz.f109.ntmps (fr [(0,i64 n),(1,.slice a a0.length c),(5,aC C 0 n (n+1)),(15,.slice a a0.length c),(16,i64 a0.length),(17,i64 ((0:Nat):Int))]) M (.exit 0) (fr [(0,i64 n),(1,.slice a a0.length c),(5,aC C 0 n (n+1))]) M'/\Ext M0 M'/\aA M'/\M'.get C=some ⟨gZ (eQ a0) a0.length n,3,1,0,true⟩:=by
 obtain⟨_,M',h1,h2,h3,h4⟩:=bL.for (P:=prog) (GL:= []) (b:=q109.loopAt 0) (nt:=Tryz.f109.ntmps) (id:=0) (σ:=Unit) (n:=a0.length) (Inv:=fun i _ M1=>Ext M0 M1/\aA M1/\M1.get C=some ⟨gZ (eQ a0) i n,3,1,0,true⟩)
  (F:=fun i _=> [(0,i64 n),(1,.slice a a0.length c),(5,aC C 0 n (n+1)),(15,.slice a a0.length c),(16,i64 a0.length),(17,i64 ((i:Nat):Int))])
  (O:=fun _=> [(0,i64 n),(1,.slice a a0.length c),(5,aC C 0 n (n+1))])
  (by
   rintro i _ M1 hi ⟨X1,a1,a2⟩
   obtain⟨bb,o,rfl,_⟩:=bU hs (by omega)
   have ht:a0[i]?=some a0[i]:=xAe hi
   have hk:=Bq hb hi
   have a3:=hb _ (List.getElem_mem hi)
   have e0:0+(a0[i]:Int).toNat*1=eQ a0 i:=by rw[Bp hi];omega
   obtain⟨T1,M2,h1,h2,h3,h4,h5,_⟩:=rA45 C n bb o a0.length c i a0[i] ((iR (eQ a0) i (eQ a0 i):Nat):Int) _ a1 X1 hC a2 (xAb (by omega)) (iX (P:=prog) (ty:=3) hs ht rfl bQ) a3 (by rw[e0];exact iS _ _ hk) (by rw[e0,iT];omega)
   rw[bD (by omega)] at h2
   have hc:=Cq (eQ a0) i (eQ a0 i)
   rw[e0,bD (by omega),uY _ hk] at h5
   exact⟨(),T1,M2,h1,h2,h3,h4,h5⟩)
  (by
   rintro _ M1 ⟨X1,a1,a2⟩
   exact rA45x C n a a0.length c a0.length (M:=M1) (xAa (by omega)))
  a0.length 0 (by omega) (s:=()) (M:=M) ⟨X,hM,by rw[uZ];exact gC⟩
 exact⟨M',h1,h2,h3,h4⟩
theorem Wm{C D E n:Nat}{a0:List Int}{M0 M:aB}(hM:aA M)(X:Ext M0 M)(hb: ∀x∈a0,0<=x/\x<(n:Int))(hl:a0.length<=400)(hn:n<=60)(hE:M0.next<=E)(gC:M.get C=some ⟨gZ (eQ a0) a0.length n,3,1,0,true⟩)(gD:M.get D=some ⟨List.replicate a0.length (i64 0),3,1,0,true⟩)(gE:M.get E=some ⟨List.replicate n eW,22,1,0,true⟩)(a4:C≠E)(a5:D≠E):
  ∃M',bL prog [] (q109.loopAt 2) Tryz.f109.ntmps (fr [(8,aC D 0 a0.length (a0.length+1)),(9,aC E 0 n (n+1)),(10,i64 ((0:Nat):Int)),(33,aC C 0 n (n+1)),(34,i64 n),(35,i64 ((0:Nat):Int))]) M (.exit 2) (fr [(9,aC E 0 n (n+1))]) M'/\Ext M0 M'/\aA M'/\M'.get D=some ⟨List.replicate a0.length (i64 0),3,1,0,true⟩/\M'.get E=some ⟨dQ D (iR (eQ a0) a0.length) (fun _=>0) n,22,1,0,true⟩:=by
 have hall:=tU (eQ a0) n a0.length fun j hj=>Bq hb hj
 have a3:=fU D (iR (eQ a0) a0.length) (fun _=>0) n
 obtain⟨_,M',h1,h2,h3,h4,h5,h6⟩:=bL.for (P:=prog) (GL:= []) (b:=q109.loopAt 2) (nt:=Tryz.f109.ntmps) (id:=2) (σ:=Unit) (n:=n) (Inv:=fun i _ M1=>Ext M0 M1/\aA M1/\M1.get C=some ⟨gZ (eQ a0) a0.length n,3,1,0,true⟩/\M1.get D=some ⟨List.replicate a0.length (i64 0),3,1,0,true⟩/\M1.get E=some ⟨sL (dQ D (iR (eQ a0) a0.length) (fun _=>0) n) i eW,22,1,0,true⟩)
  (F:=fun i _=> [(8,aC D 0 a0.length (a0.length+1)),(9,aC E 0 n (n+1)),(10,i64 ((dX (iR (eQ a0) a0.length) i:Nat):Int)),(33,aC C 0 n (n+1)),(34,i64 n),(35,i64 ((i:Nat):Int))])
  (O:=fun _=> [(9,aC E 0 n (n+1))])
  (by
   rintro i _ M1 hi ⟨X1,a1,a6,a7,a8⟩
   have hnx:=oK (iR (eQ a0) a0.length) hi
   have e0:0+((i:Int):Int).toNat*1=i:=by simp
   have ew:=Et (i:=dX (iR (eQ a0) a0.length) i) (j:=iR (eQ a0) a0.length i) (by omega)
   obtain⟨T1,M2,h1,h2,h3,h4,h5,h6,h7,_⟩:=rB45 C D E n a0.length (dX (iR (eQ a0) a0.length) i) (iR (eQ a0) a0.length i) i _ _ _ a1 X1 hE a6 a7 a8 a4 a5 (xAb (by omega)) (by rw[e0];exact iS _ _ hi) ⟨by omega,by omega⟩ ew (by rw[e0,uG _ _ (by omega)];omega)
   rw[bD (by omega),ew] at h2
   have a2:=vX (z:=eW) (hZ D (iR (eQ a0) a0.length) (fun _=>0) hi)
   simp only [Ah] at a2
   rw[e0,Nat.zero_add,Nat.add_sub_cancel_left,a2] at h7
   exact⟨(),T1,M2,h1,h2,h3,h4,h5,h6,h7⟩)
  (by
   rintro _ M1 ⟨X1,a1,_⟩
   exact rB45x C D E n a0.length _ n (M:=M1) (xAa (by omega)))
  n 0 (by omega) (s:=()) (M:=M) ⟨X,hM,gC,gD,by rw[vY,a3];exact gE⟩
 refine⟨M',h1,h2,h3,h5,?_⟩
 have:=zD (dQ D (iR (eQ a0) a0.length) (fun _=>0) n) eW
 rw[a3] at this
 rw[this] at h6
 exact h6
theorem rK109:Tryz.f109.results= #[.tmp 4]:=by kernel_rfl
theorem w45(n:Nat)(a2:Option Addr)(a3:Nat)(a0:List Int){M:aB}(hM:aA M)(a5:aH a0 (.slice a2 a0.length a3) M)(a1:a0.length<=400/\n<=60/\ ∀x∈a0,0<=x/\x<(n:Int)): ∃v M',Ev prog [] 109 [i64 n,.slice a2 a0.length a3] M v M'/\Ext M M'/\aA M'/\Ug (n,a0) M.next v M':=by
 obtain⟨b1,M2,d3,d4,g5,E6,e1⟩:=tS (P:=prog) (t:=22) (elem:=3) (z:=(i64 0)) (n:=n) hM (by kernel_rfl) (by kernel_rfl) (by have:=a1.1;have:=a1.2.1;omega)
 have e2:M.next<=b1:=by rw[<-d3];exact(Ext.refl M).next
 have X8:=(Ext.refl M).trans E6
 obtain⟨M9,b9,c7,c1,d5⟩:=Wl e1 X8 a5 a1.2.2 a1.1 e2 g5
 obtain⟨b0,b3,b6,b7,c9,c6,c2⟩:=tS (P:=prog) (t:=22) (elem:=3) (z:=(i64 0)) (n:=a0.length) c1 (by kernel_rfl) (by kernel_rfl) (by have:=a1.1;have:=a1.2.1;omega)
 have c5:=lQ b6 c7
 have d0:=c6.old d5
 have c8:=c7.trans c6
 obtain⟨a6,b4,a8,b8,d6,b2,c3⟩:=tS (P:=prog) (t:=30) (elem:=22) (z:=eW) (n:=n) c2 (by kernel_rfl) (by kernel_rfl) (by have:=a1.1;have:=a1.2.1;omega)
 have a9:=lQ a8 c8
 have a7:=fJ d0 a8
 have a4:=fJ c9 a8
 have d7:=b2.old d0
 have d8:=b2.old c9
 have d1:=c8.trans b2
 obtain⟨b5,c0,d2,c4,d9,e0⟩:=Wm c3 d1 a1.2.2 a1.1 a1.2.1 a9 d7 d8 d6 a7 a4
 exact⟨aC a6 0 n (n+1),b5,Ev.told_tmp (tb:=[0,2]) (n:=60) (F:=[bJ 5 (aC b1 0 n (n+1)) M2,aQ 11,.blk 14 [0,1,5,15,16,17] .normal (fr [(0,(i64 (n:Int))),(1,(.slice a2 a0.length a3)),(5,(aC b1 0 n (n+1)))]) M9,aQ 18,bJ 20 (aC b0 0 a0.length (a0.length+1)) b3,bJ 26 (aC a6 0 n (n+1)) b4,.blk 37 [8,9,10,33,34,35] .normal (fr [(9,(aC a6 0 n (n+1)))]) b5]) aG aF Tryz.func109 Xd (by kernel_rfl) rK109 (fun B=>sb2 (gL B) 0 b9 2 c0) (fun _ h=>yV h) (by kernel_rfl) (hq (.eq (bX prog 22 (i64 (n:Int)) (i64 (n:Int)) M) (1,.val (aC b1 0 n (n+1)),M2)) (bN d4 xAc) (hk (lN a5.ln) (hq (.blk 0 (.loop (q109.loopAt 0)) Tryz.f109.ntmps [0,1,5,15,16,17] [some (i64 (n:Int)),some (.slice a2 a0.length a3),some (aC b1 0 n (n+1)),some (.slice a2 a0.length a3),some (i64 (a0.length:Int)),some (i64 0)] M2 .normal (fr [(0,(i64 (n:Int))),(1,(.slice a2 a0.length a3)),(5,(aC b1 0 n (n+1)))]) M9) (fB rfl) (hk (lN a5.ln) (hq (.eq (bX prog 22 (i64 (a0.length:Int)) (i64 (a0.length:Int)) M9) (1,.val (aC b0 0 a0.length (a0.length+1)),b3)) (bN b7 xAc) (hq (.eq (bX prog 30 (i64 (n:Int)) (i64 (n:Int)) b3) (1,.val (aC a6 0 n (n+1)),b4)) (bN b8 xAc) (hq (.blk 2 (.loop (q109.loopAt 2)) Tryz.f109.ntmps [8,9,10,33,34,35] [some (aC b0 0 a0.length (a0.length+1)),some (aC a6 0 n (n+1)),some (i64 0),some (aC b1 0 n (n+1)),some (i64 (n:Int)),some (i64 0)] b4 .normal (fr [(9,(aC a6 0 n (n+1)))]) b5) (fB rfl) hn))))))),d2,c4,⟨a6,b0,rfl,a9,c5,a4,e0,d9⟩⟩
abbrev Q109:=FC (gN (lX pN aH) fun x:Nat×List Int=>x.2.length<=400/\x.1<=60/\ ∀z∈x.2,0<=z/\z<(x.1:Int)) Ug id
theorem Zd{x:Nat×List Int}{lv:List Value}{M:aB}(hM:aA M)(h:(gN (lX pN aH) fun x:Nat×List Int=>x.2.length<=400/\x.1<=60/\ ∀z∈x.2,0<=z/\z<(x.1:Int)) x lv M): ∃v M',kR prog [] 109 Q109 lv M v M':=by
 refine FC.con h ?_
 obtain⟨⟨g0,g1,rfl,rfl,k1⟩,a0⟩:=h
 obtain⟨n,a1⟩:=x
 obtain⟨a,c,rfl⟩:=aJ.form k1
 obtain⟨v,M',h1,h2,_,h3⟩:=w45 n a c a1 hM k1 a0
 exact⟨v,M',h1,h2,h3⟩
open Tryz
theorem r36(D E n bb o m c i p q w:Nat)(x:Int)(cd ce:List Value){M M0:aB}(hM:aA M)(X0:Ext M0 M)(hD:M0.next<=D)(hE:M0.next<=E)(gD:M.get D=some ⟨cd,3,1,0,true⟩)(gE:M.get E=some ⟨ce,22,1,0,true⟩)(b2:D≠E)(b0:(decide ((i:Int)<(m:Int)))=true)(a8:bA prog 3 ⟨bb,o+((i:Int):Int).toNat*1,none⟩ M0=some (i64 x))(a3:0<=(x:Int)/\(x:Int)<n)(c3:(ce)[0+(x:Int).toNat*1]?=some (aC D p q w))(a4:q+1<w/\p+(q+1)*1<=(cd).length/\q<1073741824)(a9:0+(x:Int).toNat*1+1<=(ce).length): ∃T1 M',Rd prog [] (q100.loopAt 0) Tryz.f100.ntmps (fr [(5,(aC E 0 n (n+1))),(11,(aC bb o m c)),(12,(i64 (m:Int))),(13,(i64 (i:Int)))]) M .normal T1 M'/\ [5,11,12,13].map T1.get= [some (aC E 0 n (n+1)),some (aC bb o m c),some (i64 (m:Int)),some (i64 (IntKind.wrap .i64 ((i:Int)+(1:Int))))]/\Ext M0 M'/\aA M'/\M'.get D=some ⟨splice cd (p+q*1) [i64 (i:Int)],3,1,0,true⟩/\M'.get E=some ⟨splice ce (0+(x:Int).toNat*1) [aC D p (q+1) w],22,1,0,true⟩/\ ∀id k,M.get id=some k->id≠D->id≠E->M'.get id=some k:=by
 obtain⟨b1,M2,b6,b7,g5,E6,c2⟩:=bC hM ⟨[i64 (i:Int)],3,1,0,true⟩
 have g8:=E6.old gD
 have g9:=E6.old gE
 have b3:=X0.trans E6
 obtain⟨a5,c7,b8,a0,b4,a6,c5⟩:=Ad (P:=prog) (sT:=22) (xT:=22) (elem:=3) (w:=1) (y:=8) (cx:=2) b3 hD c2 (by kernel_rfl) (by kernel_rfl) (by kernel_rfl) (by decide) (by decide) a4.2.2 g5 (ox:=0) (new:= [i64 (i:Int)]) rfl rfl rfl g8 (wO (n:=q*1) (k:=p) (l:=cd) (by have:=a4.2.1;omega)) rfl rfl (Nat.zero_le _) a4.1 a4.2.1
 have b9:=(a0 _ (Ne.symm b2)).trans g9
 obtain⟨a2,q22,c0,a1,b5,a7,c6⟩:=aZ (o:=0+(x:Int).toNat*1) (v:=(aC D p (q+1) w)) (new:=splice ce (0+(x:Int).toNat*1) [aC D p (q+1) w]) b4 hE a6 Nv b9 rfl rfl (Nat.zero_le _) a9 rfl
 have c1:=(a1 _ b2).trans b8
 have c4: ∀id k,M.get id=some k->id≠D->id≠E->a2.get id=some k:=fun id k g h_D h_E=>by
  have g:=E6.old g
  have g:=((fun id h _=>a0 id h) id h_D (aB.lt_of_get g)).trans g
  have g:=((fun id h _=>a1 id h) id h_E (aB.lt_of_get g)).trans g
  exact g
 obtain⟨T1,h1,h2⟩:=Rd.told (tb:=[]) (n:=60) (F:=[aQ 2,aQ 6,aR 8 (i64 x),aQ 22,aR 24 (aC D p q w),bJ 28 (aC b1 0 1 2) M2,.at 30 (2,.val (aC D p (q+1) w),a5),aQ 32,jE 34 a2]) aG aF (aI prog) (fun _ _=>rfl) (by kernel_rfl) (hk (bT b0) (hk (qI (i:Int) m (by omega) (by simp at b0;omega)) (hk (lD (aN X0 a8)) (hk (qI x n a3.1 a3.2) (hq (qL 22 E (0+(x:Int).toNat*1) M (aC D p q w)) (eO (bI (a:=⟨E,0+(x:Int).toNat*1,none⟩) jW gE c3)) (hq (.eq (bH prog 22 1 [(0,(i64 (i:Int)))] M) (1,.val (aC b1 0 1 2),M2)) (bN (by rw[<-b6,<-b7];kernel_rfl) xAc) (hq (.q (.append [22,22] (aC D p q w) (aC b1 0 1 2) M2) (2,.val (aC D p (q+1) w),a5)) (kB c7 (Nat.succ_ne_zero _)) (hk (qI x n a3.1 a3.2) (hq (qS 22 E (0+(x:Int).toNat*1) (aC D p (q+1) w) a5 a2) (dB q22) hn)))))))))
 exact⟨T1,a2,h1,h2,b5,a7,c1,c0,c4⟩
theorem r36x(E n:Nat)(a:Option Addr)(m c i:Nat){M:aB}(a0:(decide ((i:Int)<(m:Int)))=false): ∃T1,Rd prog [] (q100.loopAt 0) Tryz.f100.ntmps (fr [(5,(aC E 0 n (n+1))),(11,(.slice a m c)),(12,(i64 (m:Int))),(13,(i64 (i:Int)))]) M (.exit 0) T1 M/\ [5].map T1.get= [some (aC E 0 n (n+1))]:=by
 exact Rd.told (tb:=[]) (n:=60) (F:=[aO 2]) aG aF (aI prog) (fun _ _=>rfl) (by kernel_rfl) (hk (bF a0) hn)
theorem Zx{a:Option Addr}{c D E n:Nat}{a0:List Int}{M0 M:aB}(hM:aA M)(X:Ext M0 M)(hs:aH a0 (.slice a a0.length c) M0)(hb: ∀x∈a0,0<=x/\x<(n:Int))(hl:a0.length<=400)(hD:M0.next<=D)(hE:M0.next<=E)(a5:D≠E)(gE:M.get E=some ⟨dQ D (iR (eQ a0) a0.length) (fun _=>0) n,22,1,0,true⟩)(gD:M.get D=some ⟨List.replicate a0.length (i64 0),3,1,0,true⟩):
  ∃M',bL prog [] (q100.loopAt 0) Tryz.f100.ntmps (fr [(5,aC E 0 n (n+1)),(11,.slice a a0.length c),(12,i64 a0.length),(13,i64 ((0:Nat):Int))]) M (.exit 0) (fr [(5,aC E 0 n (n+1))]) M'/\Ext M0 M'/\aA M'/\M'.get E=some ⟨dQ D (iR (eQ a0) a0.length) (iR (eQ a0) a0.length) n,22,1,0,true⟩/\ ∃mem,M'.get D=some ⟨mem,3,1,0,true⟩/\Bk (iR (eQ a0) a0.length) n (eQ a0) (fun j=>i64 ((j:Nat):Int)) a0.length mem:=by
 have a1:=tU (eQ a0) n a0.length fun j hj=>Bq hb hj
 obtain⟨_,M',h1,h2,h3,h4,h5⟩:=bL.for (P:=prog) (GL:= []) (b:=q100.loopAt 0) (nt:=Tryz.f100.ntmps) (id:=0) (σ:=Unit) (n:=a0.length) (Inv:=fun i _ M1=>Ext M0 M1/\aA M1/\M1.get E=some ⟨dQ D (iR (eQ a0) a0.length) (iR (eQ a0) i) n,22,1,0,true⟩/\ ∃mem,M1.get D=some ⟨mem,3,1,0,true⟩/\Bk (iR (eQ a0) a0.length) n (eQ a0) (fun j=>i64 ((j:Nat):Int)) i mem)
  (F:=fun i _=> [(5,aC E 0 n (n+1)),(11,.slice a a0.length c),(12,i64 a0.length),(13,i64 ((i:Nat):Int))])
  (O:=fun _=> [(5,aC E 0 n (n+1))])
  (by
   rintro i _ M1 hi ⟨X1,a2,a7,mem,a8,hB⟩
   obtain⟨bb,o,rfl,_⟩:=bU hs (by omega)
   have ht:a0[i]?=some a0[i]:=xAe hi
   have hk:=Bq hb hi
   have a6:=hb _ (List.getElem_mem hi)
   have a3:=Sj (eQ a0) hi
   have hroom:=hB.room hk a3
   have hc:=Cq (eQ a0) i (eQ a0 i)
   have e0:0+(a0[i]:Int).toNat*1=eQ a0 i:=by rw[Bp hi];omega
   obtain⟨T1,M2,h1,h2,h3,h4,h5,h6,_⟩:=r36 D E n bb o a0.length c i (dX (iR (eQ a0) a0.length) (eQ a0 i)) (iR (eQ a0) i (eQ a0 i)) (iR (eQ a0) a0.length (eQ a0 i)+1) a0[i] _ _ a2 X1 hD hE a8 a7 a5 (xAb (by omega)) (iX (P:=prog) (ty:=3) hs ht rfl bQ) a6 (by rw[e0];exact hZ _ _ _ hk) ⟨by omega,by omega,by omega⟩ (by rw[e0,fU];omega)
   rw[bD (by omega)] at h2
   rw[e0,vG D _ (eQ a0) i n hk] at h6
   have a4:=hB.step hk a3
   rw[show dX (iR (eQ a0) a0.length) (eQ a0 i)+iR (eQ a0) i (eQ a0 i)=dX (iR (eQ a0) a0.length) (eQ a0 i)+iR (eQ a0) i (eQ a0 i)*1 by omega] at a4
   exact⟨(),T1,M2,h1,h2,h3,h4,h6,_,h5,a4⟩)
  (by
   rintro _ M1 ⟨X1,a2,_⟩
   exact r36x E n a a0.length c a0.length (M:=M1) (xAa (by omega)))
  a0.length 0 (by omega) (s:=()) (M:=M) ⟨X,hM,gE,_,gD,Bk.zero (by rw[a1];simp)⟩
 exact⟨M',h1,h2,h3,h4,h5⟩
theorem rK100:Tryz.f100.results= #[.tmp 4]:=by kernel_rfl
theorem w36(n:Nat)(a1:Option Addr)(a2:Nat)(a0:List Int){M:aB}(hM:aA M)(a4:aH a0 (.slice a1 a0.length a2) M)(a3:a0.length<=400/\n<=60/\ ∀x∈a0,0<=x/\x<(n:Int)): ∃v M',Ev prog [] 100 [i64 n,.slice a1 a0.length a2] M v M'/\Ext M M'/\aA M'/\iE aW (mJ n a0) M.next v M':=by
 obtain⟨w3,N4,M5,p6,l7,e8,E9,b4,b6⟩:=aL (x:=(n,a0)) hM Zd (⟨⟨_,_,rfl,rfl,AP.Ext (R:=aH) a4 (Ext.refl M)⟩,a3⟩)
 obtain⟨b1,b2,b9,a6,a7,a5,c1,c2⟩:=b6
 subst b9
 have a6:=Nat.le_trans (Ext.refl M).next a6
 have a7:=Nat.le_trans (Ext.refl M).next a7
 have b7:=(Ext.refl M).trans E9
 obtain⟨a8,b3,b8,b5,c0,c3,a9,b0⟩:=Zx b4 b7 a4 a3.2.2 a3.1 a7 a6 a5 c1 c2
 exact⟨aC b1 0 n (n+1),a8,Ev.told_tmp (tb:=[0]) (n:=60) (F:=[bJ 7 (aC b1 0 n (n+1)) M5,aQ 13,.blk 16 [5,11,12,13] .normal (fr [(5,(aC b1 0 n (n+1)))]) a8]) aG aF Tryz.func100 Xa (by kernel_rfl) rK100 (fun B=>wR (gH 109 Q109 (gL _)) 0 b3) (fun _ h=>bZ h) (by kernel_rfl) (hq (qC 109 [i64 (n:Int),.slice a1 a0.length a2] M (aC b1 0 n (n+1)) M5) (aK rfl p6 l7 e8) (hk (lN a4.ln) (hq (.blk 0 (.loop (q100.loopAt 0)) Tryz.f100.ntmps [5,11,12,13] [some (aC b1 0 n (n+1)),some (.slice a1 a0.length a2),some (i64 (a0.length:Int)),some (i64 0)] M5 .normal (fr [(5,(aC b1 0 n (n+1)))]) a8) (fB rfl) hn))),b8,b5,Uy (jJ a6 c0) (jJ a7 a9) b0 (by have:=a3.1;omega) _⟩
abbrev Q100:=FC (gN (lX pN aH) fun x:Nat×List Int=>x.2.length<=400/\x.1<=60/\ ∀z∈x.2,0<=z/\z<(x.1:Int)) (iE aW) (fun x=>mJ x.1 x.2)
theorem Sk{x:Nat×List Int}{lv:List Value}{M:aB}(hM:aA M)(h:(gN (lX pN aH) fun x:Nat×List Int=>x.2.length<=400/\x.1<=60/\ ∀z∈x.2,0<=z/\z<(x.1:Int)) x lv M): ∃v M',kR prog [] 100 Q100 lv M v M':=by
 refine FC.con h ?_
 obtain⟨⟨g0,g1,rfl,rfl,k1⟩,a0⟩:=h
 obtain⟨n,a1⟩:=x
 obtain⟨a,c,rfl⟩:=aJ.form k1
 obtain⟨v,M',h1,h2,_,h3⟩:=w36 n a c a1 hM k1 a0
 exact⟨v,M',h1,h2,h3⟩
open Tryz
theorem zB:(prog.underlying 26).map dV=some true:=by kernel_rfl
theorem uV:(prog.info? 26).map (·.size)=some 2:=by kernel_rfl
theorem rK85:Tryz.f85.results= #[.tmp 2]:=by kernel_rfl
theorem w26(n:Nat)(al:Option Addr)(cl:Nat)(l:List E4){M:aB}(hM:aA M)(hl:aS l (.slice al l.length cl) M)(h9:fC (n:Int) l=true)(b5:1<=(n:Int)/\(n:Int)<=60/\l.length<=400/\ ∀e∈l,0<=e.f/\e.f<(n:Int)/\0<=e.t/\e.t<(n:Int)/\Qz e): ∃v M',Ev prog [] 85 [.agg ⟨[i64 (n:Int),.slice al l.length cl]⟩] M v M'/\Ext M M'/\aA M'/\iE (eT 118) (jA n l) M.next v M':=by
 obtain⟨b1,M2,l8,l9,g5,E6,m0⟩:=bC hM ⟨[i64 (n:Int),.slice al l.length cl],26,2,0,true⟩
 have X9:=(Ext.refl M).trans E6
 obtain⟨o0,o3,c4,m6,m1,l6,i7,h3,k4⟩:=aL (x:=((n:Int),l)) m0 Sm (⟨_,rfl,_,rfl,AP.Ext (R:=aS) hl X9⟩)
 have h0:=i7.old g5
 have g7:o0=(.bool (fC (n:Int) l)):=k4
 subst g7
 have j4:=X9.trans i7
 have a3:=aB.lt_of_get h0
 obtain⟨w24,o4,a0,m7,m2,l7,i8,h4,k5⟩:=aL (x:=(l,uT.to)) h3 Sr (⟨⟨_,_,rfl,AP.Ext (R:=aS) hl j4,rfl⟩,b5.2.2.1,fun e he=>(b5.2.2.2 e he).2.2.2.2⟩)
 have k0:=i8.old h0
 have j0:aH (l.map (eC .to)) w24 (cI [(0,c4.next)] a0):=kV k5
 obtain⟨c7,c8,d0⟩:=aJ.form j0
 rw[List.length_map] at d0
 subst d0
 have b7:=j4.trans i8
 obtain⟨c5,b0⟩:=Jk a0 a0 []
 have j5:=Nk b0 b7
 have i1:c5.log= []:=by rw[b0]
 have k3:c5.next=a0.next:=by rw[b0]
 have h5:=Jl b0 h4
 have a3:=aB.lt_of_get k0
 have h1:=cF b0 k0
 have k6:=gJ (R:=aH) (M':=c5) j0 (fun id b h=>by rw[b0];exact h)
 obtain⟨w46,o5,a8,m8,m3,j7,e6,h6,k7⟩:=aL (x:=(l,uT.fr)) h5 Sr (⟨⟨_,_,rfl,AP.Ext (R:=aS) (AP.log (R:=aS) hl) j5,rfl⟩,b5.2.2.1,fun e he=>(b5.2.2.2 e he).2.2.2.2⟩)
 have k8:=fT (R:=aH) k6 e6
 have k1:=e6.old h1
 have j1:aH (l.map (eC .fr)) w46 (cI [(0,c5.next)] a8):=kV k7
 obtain⟨g4,g6,d1⟩:=aJ.form j1
 rw[List.length_map] at d1
 subst d1
 have i2:a8.log= []:=by rw[<-j7];exact i1
 have j6:=j5.trans e6
 have ltb1M65:=aB.lt_of_get k1
 obtain⟨o1,o6,a7,m9,m4,j8,e7,h7,k9⟩:=aL (x:=(n,l.map (eC .fr))) h6 Sk (⟨⟨_,_,rfl,rfl,eF (R:=aH) j1⟩,by simpa using b5.2.2.1,by have:=b5.2.1;omega,mX h9 (by simp)⟩)
 have i9:=fT (R:=aH) k8 e7
 have h2:=e7.old k1
 have j2:aW (mJ n (l.map (eC .fr))) o1 (cI [(0,a8.next)] a7):=kV k9
 obtain⟨e0,e4,l4,d2,_⟩:=id j2
 rw[Eh] at d2
 subst d2
 have i3:a7.log= []:=by rw[<-j8];exact i2
 have g3:=j6.trans e7
 have ltb1M84:=aB.lt_of_get h2
 obtain⟨o2,o7,b2,n0,m5,j9,e2,h8,l0⟩:=aL (x:=(n,l.map (eC .to))) h7 Sk (⟨⟨_,_,rfl,rfl,eF (R:=aH) i9⟩,by simpa using b5.2.2.1,by have:=b5.2.1;omega,mX h9 (by simp)⟩)
 have l1:=fT (R:=aH) i9 e2
 have l2:=fT (R:=aW) j2 e2
 have k2:=e2.old h2
 have j3:aW (mJ n (l.map (eC .to))) o2 (cI [(0,a7.next)] b2):=kV l0
 obtain⟨e1,e5,l5,d3,_⟩:=id j3
 rw[Eh] at d3
 subst d3
 have i4:b2.log= []:=by rw[<-j9];exact i3
 have e3:=g3.trans e2
 have ltb1M104:=aB.lt_of_get k2
 obtain⟨i6,l3,a9,i5,i0,c9,b6,d4,e8⟩:=aL (x:=(l,uT.set)) h8 Sr (⟨⟨_,_,rfl,AP.Ext (R:=aS) (AP.log (R:=aS) hl) e3,rfl⟩,b5.2.2.1,fun e he=>(b5.2.2.2 e he).2.2.2.2⟩)
 have e9:=fT (R:=aH) l1 b6
 have f0:=fT (R:=aW) l2 b6
 have f1:=fT (R:=aW) j3 b6
 have c3:aH (l.map (eC .set)) i6 (cI [(0,b2.next)] a9):=kV e8
 obtain⟨b8,b9,c1⟩:=aJ.form c3
 rw[List.length_map] at c1
 subst c1
 have d7:a9.log= []:=by rw[<-c9];exact i4
 have c2:=e3.trans b6
 obtain⟨b3,a1,a5,c0,g8,b4,d5⟩:=bC d4 ⟨[aC e0 0 n e4,aC e1 0 n e5,.slice c7 l.length c8,.slice b8 l.length b9],118,4,0,true⟩
 have d9:M.next<=b3:=(lQ a5 c2:)
 have f2:=jK (R:=aH) e9 a5 b4
 have f3:=jK (R:=aW) f0 a5 b4
 have f4:=jK (R:=aW) f1 a5 b4
 have f6:=jK (R:=aH) c3 a5 b4
 have d8:a1.log= []:=by rw[<-c0];exact d7
 have c6:=c2.trans b4
 obtain⟨a6,a2⟩: ∃m:aB,m=(aB.mk a1.blks a1.next a1.hide (a1.log++a0.log)):=⟨_,rfl⟩
 have g2:Ext M a6:=by rw[a2];exact Ext.join (b7) (c6)
 have d6:aA a6:=by rw[a2];exact d5
 have g9:=cF a2 g8
 have f7:=gJ (R:=aH) (M':=a6) f2 (fun id b h=>by rw[a2];exact h)
 have f8:=gJ (R:=aW) (M':=a6) f3 (fun id b h=>by rw[a2];exact h)
 have g0:=gJ (R:=aW) (M':=a6) f4 (fun id b h=>by rw[a2];exact h)
 have g1:=gJ (R:=aH) (M':=a6) f6 (fun id b h=>by rw[a2];exact h)
 have a4:oT prog [] 60 Tryz.f85 q85 [.agg ⟨[i64 (n:Int),.slice al l.length cl]⟩] M [bJ 1 (pt b1 0) M2,aR 5 (.agg ⟨[i64 (n:Int),.slice al l.length cl]⟩),bJ 7 (.bool (fC (n:Int) l)) c4,aO 10,aR 14 (.slice al l.length cl),bJ 16 (.slice c7 l.length c8) a0,aR 22 (i64 (n:Int)),aR 26 (.slice al l.length cl),bJ 28 (.slice g4 l.length g6) a8,bJ 30 (aC e0 0 n e4) a7,aR 34 (i64 (n:Int)),bJ 38 (aC e1 0 n e5) b2,aR 44 (.slice al l.length cl),bJ 46 (.slice b8 l.length b9) a9,bJ 50 (pt b3 0) a1] 2=some (.ret,some (pt b3 0),aB.mk a1.blks a1.next a0.hide (a1.log++a0.log),[.eq (eI prog 26 (.agg ⟨[i64 (n:Int),.slice al l.length cl]⟩) M) (1,.val (pt b1 0),M2),qL 26 b1 0 M2 (.agg ⟨[i64 (n:Int),.slice al l.length cl]⟩),qC 24 [.agg ⟨[i64 (n:Int),.slice al l.length cl]⟩] M2 (.bool (fC (n:Int) l)) c4,qF (!(fC (n:Int) l)),qL 24 b1 1 c4 (.slice al l.length cl),qC 98 [.slice al l.length cl,.func (.func 99) ⟨[]⟩ ⟨[]⟩] c4 (.slice c7 l.length c8) a0,qL 3 b1 0 (aB.mk a0.blks a0.next a0.hide []) (i64 (n:Int)),qT (Nat.blt b1 a0.next),qL 24 b1 1 (aB.mk a0.blks a0.next a0.hide []) (.slice al l.length cl),qC 98 [.slice al l.length cl,.func (.func 101) ⟨[]⟩ ⟨[]⟩] (aB.mk a0.blks a0.next a0.hide []) (.slice g4 l.length g6) a8,qC 100 [i64 (n:Int),.slice g4 l.length g6] (aB.mk a8.blks a8.next a0.hide a8.log) (aC e0 0 n e4) a7,qL 3 b1 0 (aB.mk a7.blks a7.next (aV 64 [⟨5,1,a8.next,a7.next⟩,⟨4,1,a0.next,a8.next⟩,⟨3,1,a0.next,a0.next⟩]++a0.hide) a7.log) (i64 (n:Int)),qT (Nat.blt b1 a0.next),qC 100 [i64 (n:Int),.slice c7 l.length c8] (aB.mk a7.blks a7.next a0.hide a7.log) (aC e1 0 n e5) b2,qL 24 b1 1 (aB.mk b2.blks b2.next (aV 2048 [⟨9,1,a7.next,b2.next⟩,⟨5,1,a8.next,a7.next⟩,⟨4,1,a0.next,a8.next⟩,⟨3,1,a0.next,a0.next⟩]++a0.hide) b2.log) (.slice al l.length cl),qT (Nat.blt b1 a0.next),qC 98 [.slice al l.length cl,.func (.func 102) ⟨[]⟩ ⟨[]⟩] (aB.mk b2.blks b2.next a0.hide b2.log) (.slice b8 l.length b9) a9,.eq (eI prog 118 (.agg ⟨[aC e0 0 n e4,aC e1 0 n e5,.slice c7 l.length c8,.slice b8 l.length b9]⟩) (aB.mk a9.blks a9.next a0.hide a9.log)) (1,.val (pt b3 0),a1),qT (cZ [b1,b1,b1] a1.log)]):=by kernel_rfl
 have n1:aB.mk a0.blks a0.next a0.hide []=c5:=b0.symm
 have n2:=pT ((b7).hide.trans (j6).hide.symm)
 have n3:=pT ((b7).hide.trans (g3).hide.symm)
 have n4:=Gs 64 [⟨5,1,a8.next,a7.next⟩,⟨4,1,a0.next,a8.next⟩,⟨3,1,a0.next,a0.next⟩] ((b7).hide.trans (g3).hide.symm)
 have n5:=pT ((b7).hide.trans (e3).hide.symm)
 have n6:=Gs 2048 [⟨9,1,a7.next,b2.next⟩,⟨5,1,a8.next,a7.next⟩,⟨4,1,a0.next,a8.next⟩,⟨3,1,a0.next,a0.next⟩] ((b7).hide.trans (e3).hide.symm)
 have n7:=pT ((b7).hide.trans (c2).hide.symm)
 have n8:=Dr (L:=(a1.log++a0.log)) ((b7).hide.trans (c6).hide.symm)
 have n9:(aB.mk a1.blks a1.next a1.hide (a1.log++a0.log))=a6:=a2.symm
 try rw[n1] at a4
 try rw[n2] at a4
 try rw[n3] at a4
 try rw[n4] at a4
 try rw[n5] at a4
 try rw[n6] at a4
 try rw[n7] at a4
 try rw[n8] at a4
 try rw[n9] at a4
 exact⟨pt b3 0,a6,Ev.told_tmp aG aF Tryz.func85 aAZ (by kernel_rfl) rK85 (fun B=>lV (gH 24 Q24 (gH 98 Q98 (gH 100 Q100 (gL _))))) (fun _ _=>rfl) a4 (hk (bN (by rw[<-l8,<-l9];kernel_rfl) xAc) (hk (lA ⟨zB,uV⟩ g5 rfl) (hk (aK rfl m6 m1 l6) (hk (bF (by rw[h9];rfl)) (hk (lC nL h0 rfl) (hk (aK rfl m7 m2 l7) (hk (lC bQ h1 rfl) (hk (lG a3) (hk (lC nL h1 rfl) (hk (aK rfl m8 m3 j7) (hk (aK rfl m9 m4 j8) (hk (lC bQ (bV.2 ⟨dC (by simp;omega),h2⟩) rfl) (hk (lG a3) (hk (aK rfl n0 m5 j9) (hk (lC nL (bV.2 ⟨dC (by simp;omega),k2⟩) rfl) (hk (lG a3) (hk (aK rfl i5 i0 c9) (hk (bN (by rw[<-a5,<-c0];kernel_rfl) xAc) (hk (eA (by rw[d8];simp<;>omega)) hn))))))))))))))))))),g2,d6,⟨b3,_,_,_,_,rfl,jJ d9 g9,Gk (R:=aW) f8 (by intro id hh;simp only [bR] at hh;omega),Gk (R:=aW) g0 (by intro id hh;simp only [bR] at hh;omega),Gk (R:=aH) f7 (by intro id hh;simp only [bR] at hh;omega),Gk (R:=aH) g1 (by intro id hh;simp only [bR] at hh;omega)⟩⟩
abbrev Q85:=FC (gN (sZ mN) fun x=>fC (x.1:Int) x.2=true) (iE (eT 118)) (fun x=>jA x.1 x.2)
theorem con85{x:Nat×List E4}{lv:List Value}{M:aB}(hM:aA M)(h:(gN (sZ mN) fun x:Nat×List E4=>fC (x.1:Int) x.2=true) x lv M): ∃v M',kR prog [] 85 Q85 lv M v M':=by
 refine FC.con h ?_
 obtain⟨⟨g0,rfl,k0⟩,a0⟩:=h
 obtain⟨n,l⟩:=x
 obtain⟨_,rfl,hl⟩:=k0
 obtain⟨a,c,rfl⟩:=aJ.form hl
 obtain⟨v,M',h1,h2,_,h3⟩:=w26 n a c l hM hl a0 (fY a0)
 exact⟨v,M',h1,h2,h3⟩
open Tryz
theorem zC:(prog.underlying 30).map dV=some false:=by kernel_rfl
theorem Uv:Tryz.f105.results= #[.tmp 4]:=by kernel_rfl
theorem w44_0(E c:Nat)(rs:List (List Int))(v:Int)(r:List Int)(ar:Option Addr)(cr:Nat){M:aB}(hM:aA M)(a0:(decide (v<(0:Int)))=true): ∃v_ M',Ev prog [] 105 [aC E 0 rs.length c,i64 v] M v_ M'/\Ext M M'/\aA M'/\v_=eW/\M'=M:=by
 exact⟨eW,M,Ev.told_tmp (tb:=[]) (n:=60) (F:=[aQ 8,aQ 10,aQ 12,aQ 14,aQ 17]) aG aF Tryz.func105 Jb (by kernel_rfl) Uv (aI prog) (fun _ _=>rfl) (by kernel_rfl) (hw (bT a0) (hw (bT a0) (hk (bT a0) hn))),Ext.refl M,hM,⟨rfl,rfl⟩⟩
theorem w44_1(E c:Nat)(rs:List (List Int))(v:Int)(r:List Int)(ar:Option Addr)(cr:Nat){M:aB}(hM:aA M)(a0:(decide (v<(0:Int)))=false)(a1:(decide (v>=(rs.length:Int)))=true): ∃v_ M',Ev prog [] 105 [aC E 0 rs.length c,i64 v] M v_ M'/\Ext M M'/\aA M'/\v_=eW/\M'=M:=by
 exact⟨eW,M,Ev.told_tmp (tb:=[]) (n:=60) (F:=[aO 8,aO 10,aO 12,aO 14,aO 17,aQ 18]) aG aF Tryz.func105 Jb (by kernel_rfl) Uv (aI prog) (fun _ _=>rfl) (by kernel_rfl) (hw (bF a0) (hw (bF a0) (hk (bF a0) (hk (bT a1) hn)))),Ext.refl M,hM,⟨rfl,rfl⟩⟩
theorem w44_2(E c:Nat)(rs:List (List Int))(v:Int)(r:List Int)(ar:Option Addr)(cr:Nat){M:aB}(hM:aA M)(a0:(decide (v<(0:Int)))=false)(a3:(decide (v>=(rs.length:Int)))=false)(a2:0<=(v:Int)/\(v:Int)<rs.length)(a1:bA prog 22 ⟨E,0+(v:Int).toNat*1,none⟩ M=some (.slice ar r.length cr)): ∃v_ M',Ev prog [] 105 [aC E 0 rs.length c,i64 v] M v_ M'/\Ext M M'/\aA M'/\v_=(.slice ar r.length cr)/\M'=M:=by
 exact⟨.slice ar r.length cr,M,Ev.told_tmp (tb:=[]) (n:=60) (F:=[aO 8,aO 10,aO 12,aO 14,aO 17,aO 18,aQ 24,aR 26 (.slice ar r.length cr)]) aG aF Tryz.func105 Jb (by kernel_rfl) Uv (aI prog) (fun _ _=>rfl) (by kernel_rfl) (hw (bF a0) (hw (bF a0) (hk (bF a0) (hk (bF a3) (hk (qI v rs.length a2.1 a2.2) (hk (lD (a1)) hn)))))),Ext.refl M,hM,⟨rfl,rfl⟩⟩
abbrev Vm:=FC (lX aW pI) (plain aH) (fun x=>dR x.1 x.2)
theorem Hz{x:List (List Int)×Int}{lv:List Value}{M:aB}(hM:aA M)(h:(lX aW pI) x lv M): ∃v M',kR prog [] 105 Vm lv M v M':=by
 refine FC.con h ?_
 obtain⟨g0,g1,rfl,k0,k1⟩:=h
 obtain⟨rs,v⟩:=x
 obtain rfl:=k1
 obtain⟨E,c,rfl⟩:=eY k0
 by_cases h0:v<0
 ·obtain⟨v',M',h1,h2,_,rfl,rfl⟩:=w44_0 E c rs v [] none 0 hM (xAb h0)
  refine⟨_,_,h1,h2,?_⟩
  show aH (dR rs v) _ _
  rw[show dR rs v= [] by unfold dR;rw[if_neg (by omega)]]
  exact aJ.nil none
 ·by_cases h1:v<(rs.length:Int)
  ·have hu:rs[v.toNat]?=some rs[v.toNat]:=xAe (by omega)
   obtain⟨ar,cr,h2,h3⟩:=Di (P:=prog) (ty:=22) k0 hu jW
   obtain⟨v',M',k1,k2,_,rfl,rfl⟩:=w44_2 E c rs v rs[v.toNat] ar cr hM (xAa h0) (xAa (by omega)) (by omega) h2
   refine⟨_,_,k1,k2,?_⟩
   show aH (dR rs v) _ _
   rw[show dR rs v=rs[v.toNat] by unfold dR;rw[if_pos (by omega),hu];rfl]
   exact h3
  ·obtain⟨v',M',k1,k2,_,rfl,rfl⟩:=w44_1 E c rs v [] none 0 hM (xAa h0) (xAb (by omega))
   refine⟨_,_,k1,k2,?_⟩
   show aH (dR rs v) _ _
   rw[show dR rs v= [] by unfold dR;rw[if_pos (by omega),List.getElem?_eq_none (by omega)];rfl]
   exact aJ.nil none
theorem rK89:Tryz.f89.results= #[.tmp 4]:=by kernel_rfl
theorem w32(ab Eo Ei:Nat)(co ci:Nat)(at_:Option Addr)(ct:Nat)(a8:Option Addr)(a9:Nat)(ad:eV)(v:Int){M:aB}(hM:aA M)(b6:M.get ab=some ⟨[aC Eo 0 ad.out.length co,aC Ei 0 ad.inn.length ci,.slice at_ ad.to.length ct,.slice a8 ad.set.length a9],118,4,0,true⟩)(a4:aW ad.out (aC Eo 0 ad.out.length co) M)(hinn:aW ad.inn (aC Ei 0 ad.inn.length ci) M)(hto:aH ad.to (.slice at_ ad.to.length ct) M)(hset:aH ad.set (.slice a8 ad.set.length a9) M)(b0:rE ad): ∃v_ M',Ev prog [] 89 [pt ab 0,i64 v] M v_ M'/\Ext M M'/\aA M'/\iE aH (dR ad.out v) M.next v_ M':=by
 obtain⟨w4,N5,M6,p7,l8,e9,b1,a2,b3⟩:=aL (x:=(ad.out,v)) hM Hz (⟨_,_,rfl,AP.Ext (R:=aW) a4 (Ext.refl M),rfl⟩)
 have G3:aH (dR ad.out v) w4 M6:=b3
 obtain⟨a1,c2,b5⟩:=aJ.form G3
 subst b5
 have a7:=(Ext.refl M).trans b1
 obtain⟨a6,a0,q18,b7,b2,a3,a5⟩:=Ae (P:=prog) (sT:=22) (xT:=22) (elem:=3) (w:=1) (y:=8) a2 (by kernel_rfl) (by kernel_rfl) (by kernel_rfl) (by decide) (by decide) rfl G3 (qK (p:=fun r=>r.length<=1073741824) (fun r hr=>Nat.le_trans (b0.1 r hr).1 (by decide)) (by decide) v) (fun _ _=>rfl)
 have b4:=a7.trans b2
 exact⟨a6,a0,Ev.told_tmp (tb:=[]) (n:=60) (F:=[aR 9 (aC Eo 0 ad.out.length co),bJ 13 (.slice a1 (dR ad.out v).length c2) M6,bJ 15 a6 a0]) aG aF Tryz.func89 aA3 (by kernel_rfl) rK89 (fun B=>lV (gH 105 Vm (gL _))) (fun _ _=>rfl) (by kernel_rfl) (hk (lO 0 zC b6 rfl) (hq (qC 105 [aC Eo 0 ad.out.length co,i64 v] M (.slice a1 (dR ad.out v).length c2) M6) (aK rfl p7 l8 e9) (hq (.q (.append [22,22] eW (.slice a1 (dR ad.out v).length c2) M6) (1,.val a6,a0)) (kB q18 xAc) hn))),b4,a3,Uc (a7).next (fun _ _=>rfl) (Nat.le_trans (qK (p:=fun r=>r.length<=400) (fun r hr=>(b0.1 r hr).1) (by decide) v) (by decide)) a5⟩
abbrev Q89:=FC (gN (lX (eT 118) pI) fun x=>rE x.1) (iE aH) (fun x=>dR x.1.out x.2)
theorem con89{x:eV×Int}{lv:List Value}{M:aB}(hM:aA M)(h:(gN (lX (eT 118) pI) fun x:eV×Int=>rE x.1) x lv M): ∃v M',kR prog [] 89 Q89 lv M v M':=by
 refine FC.con h ?_
 obtain⟨⟨g0,g1,rfl,k0,k1⟩,a7⟩:=h
 obtain⟨ad,v⟩:=x
 obtain rfl:=k1
 obtain⟨ab,o,i_,t,s,rfl,a6,a1,a0,a3,a2⟩:=k0
 obtain⟨Eo,co,rfl⟩:=eY a1
 obtain⟨Ei,ci,rfl⟩:=eY a0
 obtain⟨at_,ct,rfl⟩:=aJ.form a3
 obtain⟨a4,a5,rfl⟩:=aJ.form a2
 obtain⟨v',M',h1,h2,_,h3⟩:=w32 ab Eo Ei co ci at_ ct a4 a5 ad v hM a6 a1 a0 a3 a2 a7
 exact⟨v',M',h1,h2,h3⟩
theorem rK90:Tryz.f90.results= #[.tmp 4]:=by kernel_rfl
theorem w33(ab Eo Ei:Nat)(co ci:Nat)(at_:Option Addr)(ct:Nat)(a8:Option Addr)(a9:Nat)(ad:eV)(v:Int){M:aB}(hM:aA M)(b6:M.get ab=some ⟨[aC Eo 0 ad.out.length co,aC Ei 0 ad.inn.length ci,.slice at_ ad.to.length ct,.slice a8 ad.set.length a9],118,4,0,true⟩)(hout:aW ad.out (aC Eo 0 ad.out.length co) M)(a4:aW ad.inn (aC Ei 0 ad.inn.length ci) M)(hto:aH ad.to (.slice at_ ad.to.length ct) M)(hset:aH ad.set (.slice a8 ad.set.length a9) M)(b0:rE ad): ∃v_ M',Ev prog [] 90 [pt ab 0,i64 v] M v_ M'/\Ext M M'/\aA M'/\iE aH (dR ad.inn v) M.next v_ M':=by
 obtain⟨w4,N5,M6,p7,l8,e9,b1,a2,b3⟩:=aL (x:=(ad.inn,v)) hM Hz (⟨_,_,rfl,AP.Ext (R:=aW) a4 (Ext.refl M),rfl⟩)
 have G3:aH (dR ad.inn v) w4 M6:=b3
 obtain⟨a1,c2,b5⟩:=aJ.form G3
 subst b5
 have a7:=(Ext.refl M).trans b1
 obtain⟨a6,a0,q18,b7,b2,a3,a5⟩:=Ae (P:=prog) (sT:=22) (xT:=22) (elem:=3) (w:=1) (y:=8) a2 (by kernel_rfl) (by kernel_rfl) (by kernel_rfl) (by decide) (by decide) rfl G3 (qK (p:=fun r=>r.length<=1073741824) (fun r hr=>Nat.le_trans (b0.2.1 r hr).1 (by decide)) (by decide) v) (fun _ _=>rfl)
 have b4:=a7.trans b2
 exact⟨a6,a0,Ev.told_tmp (tb:=[]) (n:=60) (F:=[aR 9 (aC Ei 0 ad.inn.length ci),bJ 13 (.slice a1 (dR ad.inn v).length c2) M6,bJ 15 a6 a0]) aG aF Tryz.func90 aA4 (by kernel_rfl) rK90 (fun B=>lV (gH 105 Vm (gL _))) (fun _ _=>rfl) (by kernel_rfl) (hk (lO 1 zC b6 rfl) (hq (qC 105 [aC Ei 0 ad.inn.length ci,i64 v] M (.slice a1 (dR ad.inn v).length c2) M6) (aK rfl p7 l8 e9) (hq (.q (.append [22,22] eW (.slice a1 (dR ad.inn v).length c2) M6) (1,.val a6,a0)) (kB q18 xAc) hn))),b4,a3,Uc (a7).next (fun _ _=>rfl) (Nat.le_trans (qK (p:=fun r=>r.length<=400) (fun r hr=>(b0.2.1 r hr).1) (by decide) v) (by decide)) a5⟩
abbrev Q90:=FC (gN (lX (eT 118) pI) fun x=>rE x.1) (iE aH) (fun x=>dR x.1.inn x.2)
theorem con90{x:eV×Int}{lv:List Value}{M:aB}(hM:aA M)(h:(gN (lX (eT 118) pI) fun x:eV×Int=>rE x.1) x lv M): ∃v M',kR prog [] 90 Q90 lv M v M':=by
 refine FC.con h ?_
 obtain⟨⟨g0,g1,rfl,k0,k1⟩,a7⟩:=h
 obtain⟨ad,v⟩:=x
 obtain rfl:=k1
 obtain⟨ab,o,i_,t,s,rfl,a6,a1,a0,a3,a2⟩:=k0
 obtain⟨Eo,co,rfl⟩:=eY a1
 obtain⟨Ei,ci,rfl⟩:=eY a0
 obtain⟨at_,ct,rfl⟩:=aJ.form a3
 obtain⟨a4,a5,rfl⟩:=aJ.form a2
 obtain⟨v',M',h1,h2,_,h3⟩:=w33 ab Eo Ei co ci at_ ct a4 a5 ad v hM a6 a1 a0 a3 a2 a7
 exact⟨v',M',h1,h2,h3⟩
open Tryz
theorem r43(ab bb o m c i sb so k a3:Nat)(s x z:Int)(vo vi vt:Value){M:aB}{M0:aB}(X0:Ext M0 M)(a5:M.get ab=some ⟨[vo,vi,vt,aC sb so k a3],118,4,0,true⟩)(a2:(decide ((i:Int)<(m:Int)))=true)(a0:bA prog 3 ⟨bb,o+((i:Int):Int).toNat*1,none⟩ M0=some (i64 x))(a4:0<=(x:Int)/\(x:Int)<k)(a1:bA prog 3 ⟨sb,so+(x:Int).toNat*1,none⟩ M0=some (i64 z)): ∃T1,Rd prog [] (q112.loopAt 0) Tryz.f112.ntmps (fr [(0,(pt ab 0)),(5,(i64 s)),(8,(aC bb o m c)),(9,(i64 (m:Int))),(10,(i64 (i:Int)))]) M .normal T1 M/\ [0,5,8,9,10].map T1.get= [some (pt ab 0),some (i64 (Mv s z)),some (aC bb o m c),some (i64 (m:Int)),some (i64 (IntKind.wrap .i64 ((i:Int)+(1:Int))))]:=by
 exact Rd.told (tb:=[]) (n:=60) (F:=[aQ 2,aQ 4,aR 6 (i64 x),aR 18 (aC sb so k a3),aQ 22,aR 24 (i64 z)]) aG aF (aI prog) (fun _ _=>rfl) (by kernel_rfl) (hk (bT a2) (hk (qI (i:Int) m (by omega) (by simp at a2;omega)) (hk (lD (aN X0 a0)) (hk (lO 3 jW a5 rfl) (hk (qI x k a4.1 a4.2) (hk (lD (aN X0 a1)) hn))))))
theorem r43x(ab:Nat)(a:Option Addr)(m c i:Nat)(s:Int){M:aB}(a0:(decide ((i:Int)<(m:Int)))=false): ∃T1,Rd prog [] (q112.loopAt 0) Tryz.f112.ntmps (fr [(0,(pt ab 0)),(5,(i64 s)),(8,(.slice a m c)),(9,(i64 (m:Int))),(10,(i64 (i:Int)))]) M (.exit 0) T1 M/\ [5].map T1.get= [some (i64 s)]:=by
 exact Rd.told (tb:=[]) (n:=60) (F:=[aO 2]) aG aF (aI prog) (fun _ _=>rfl) (by kernel_rfl) (hk (bF a0) hn)
theorem Zy{ab:Nat}{a a2:Option Addr}{c a1:Nat}{es set:List Int}{vo vi vt:Value}{M:aB}(hM:aA M)(hs:aH es (.slice a es.length c) M)(a4:M.get ab=some ⟨[vo,vi,vt,.slice a2 set.length a1],118,4,0,true⟩)(a0:aH set (.slice a2 set.length a1) M)(hb: ∀j∈es,0<=j/\j<(set.length:Int)):
  ∃M',bL prog [] (q112.loopAt 0) Tryz.f112.ntmps (fr [(0,pt ab 0),(5,i64 0),(8,.slice a es.length c),(9,i64 es.length),(10,i64 ((0:Nat):Int))]) M (.exit 0) (fr [(5,i64 (eZ set es))]) M'/\Ext M M'/\aA M':=by
 have hlen:=hs.len
 obtain⟨_,M',h1,h2,h3,h4⟩:=bL.for (P:=prog) (GL:= []) (b:=q112.loopAt 0) (nt:=Tryz.f112.ntmps) (id:=0) (σ:=Unit) (n:=es.length) (Inv:=fun i _ M1=>Ext M M1/\aA M1/\True)
  (F:=fun i _=> [(0,pt ab 0),(5,i64 (eZ set (es.take i))),(8,.slice a es.length c),(9,i64 es.length),(10,i64 ((i:Nat):Int))])
  (O:=fun _=> [(5,i64 (eZ set (es.take es.length)))])
  (by
   rintro i _ M1 hi ⟨X1,a3,_⟩
   obtain⟨bb,o,rfl,_⟩:=bU hs (by omega)
   have ht:es[i]?=some es[i]:=xAe hi
   have a5:=hb _ (List.getElem_mem hi)
   obtain⟨sb,so,rfl,_⟩:=bU a0 (by omega)
   have hz:set[(es[i]).toNat]?=some set[(es[i]).toNat]:=xAe (by omega)
   obtain⟨T1,h1,h2⟩:=r43 ab bb o es.length c i sb so set.length a1 (eZ set (es.take i)) es[i] set[(es[i]).toNat] vo vi vt (M:=M1) X1 (X1.old a4) (xAb (by omega)) (iX (P:=prog) (ty:=3) hs ht rfl bQ) a5 (iX (P:=prog) (ty:=3) a0 hz rfl bQ)
   rw[bD (by omega)] at h2
   refine⟨(),T1,M1,h1,?_,X1,a3,trivial⟩
   rw[List.take_succ_eq_append_getElem hi]
   unfold eZ
   rw[List.foldl_append]
   simp only [List.foldl_cons,List.foldl_nil,hz,Option.getD_some]
   exact h2)
  (by
   rintro _ M1 ⟨X1,a3,_⟩
   exact r43x ab a es.length c es.length _ (M:=M1) (xAa (by omega)))
  es.length 0 (by omega) (s:=()) (M:=M) ⟨Ext.refl M,hM,trivial⟩
 rw[List.take_length] at h1
 exact⟨M',h1,h2,h3⟩
theorem rK112:Tryz.f112.results= #[.tmp 4]:=by kernel_rfl
theorem w43(ab Eo Ei:Nat)(co ci:Nat)(at_:Option Addr)(ct:Nat)(a1:Option Addr)(a2:Nat)(ad:eV)(ae:Option Addr)(ce:Nat)(es:List Int){M:aB}(hM:aA M)(a4:M.get ab=some ⟨[aC Eo 0 ad.out.length co,aC Ei 0 ad.inn.length ci,.slice at_ ad.to.length ct,.slice a1 ad.set.length a2],118,4,0,true⟩)(hout:aW ad.out (aC Eo 0 ad.out.length co) M)(hinn:aW ad.inn (aC Ei 0 ad.inn.length ci) M)(hto:aH ad.to (.slice at_ ad.to.length ct) M)(a0:aH ad.set (.slice a1 ad.set.length a2) M)(hok:rE ad)(a3:aH es (.slice ae es.length ce) M)(hb: ∀j∈es,0<=j/\j<(ad.set.length:Int)): ∃v_ M',Ev prog [] 112 [pt ab 0,.slice ae es.length ce] M v_ M'/\Ext M M'/\aA M'/\v_=i64 (eZ ad.set es):=by
 obtain⟨M1,a5,E3,a6⟩:=Zy hM (AP.Ext (R:=aH) a3 (Ext.refl M)) a4 (AP.Ext (R:=aH) a0 (Ext.refl M)) hb
 have X7:=(Ext.refl M).trans E3
 exact⟨i64 (eZ ad.set es),M1,Ev.told_tmp (tb:=[0]) (n:=60) (F:=[aQ 7,.blk 10 [0,5,8,9,10] .normal (fr [(5,(i64 (eZ ad.set es)))]) M1]) aG aF Tryz.func112 Xe (by kernel_rfl) rK112 (fun B=>wR (gL B) 0 a5) (fun _ h=>bZ h) (by kernel_rfl) (hk (lN a3.ln) (hq (.blk 0 (.loop (q112.loopAt 0)) Tryz.f112.ntmps [0,5,8,9,10] [some (pt ab 0),some (i64 0),some (.slice ae es.length ce),some (i64 (es.length:Int)),some (i64 0)] M .normal (fr [(5,(i64 (eZ ad.set es)))]) M1) (fB rfl) hn)),X7,a6,rfl⟩
abbrev Q112:=FC (gN (lX (eT 118) aH) fun x=>rE x.1/\ ∀j∈x.2,0<=j/\j<(x.1.set.length:Int)) (plain pI) (fun x=>eZ x.1.set x.2)
theorem Sl{x:eV×List Int}{lv:List Value}{M:aB}(hM:aA M)(h:(gN (lX (eT 118) aH) fun x:eV×List Int=>rE x.1/\ ∀j∈x.2,0<=j/\j<(x.1.set.length:Int)) x lv M): ∃v M',kR prog [] 112 Q112 lv M v M':=by
 refine FC.con h ?_
 obtain⟨⟨g0,g1,rfl,k0,k1⟩,a7,hb⟩:=h
 obtain⟨ad,es⟩:=x
 obtain⟨ae,ce,rfl⟩:=aJ.form k1
 obtain⟨ab,o,i_,t,s,rfl,a6,a1,a0,a3,a2⟩:=k0
 obtain⟨Eo,co,rfl⟩:=eY a1
 obtain⟨Ei,ci,rfl⟩:=eY a0
 obtain⟨at_,ct,rfl⟩:=aJ.form a3
 obtain⟨a4,a5,rfl⟩:=aJ.form a2
 obtain⟨v',M',h1,h2,_,h3⟩:=w43 ab Eo Ei co ci at_ ct a4 a5 ad ae ce es hM a6 a1 a0 a3 a2 a7 k1 hb
 exact⟨v',M',h1,h2,h3⟩
theorem rK104:Tryz.f104.results= #[.tmp 4]:=by kernel_rfl
theorem w29(ab Eo Ei:Nat)(co ci:Nat)(at_:Option Addr)(ct:Nat)(d8:Option Addr)(d9:Nat)(ad:eV)(v:Int){M:aB}(hM:aA M)(e5:M.get ab=some ⟨[aC Eo 0 ad.out.length co,aC Ei 0 ad.inn.length ci,.slice at_ ad.to.length ct,.slice d8 ad.set.length d9],118,4,0,true⟩)(c9:aW ad.out (aC Eo 0 ad.out.length co) M)(c7:aW ad.inn (aC Ei 0 ad.inn.length ci) M)(hto:aH ad.to (.slice at_ ad.to.length ct) M)(hset:aH ad.set (.slice d8 ad.set.length d9) M)(b2:rE ad)(a8:eT 118 ad (pt ab 0) M): ∃v_ M',Ev prog [] 104 [pt ab 0,i64 v] M v_ M'/\Ext M M'/\aA M'/\v_=i64 (jZ ad v):=by
 obtain⟨R1,a6⟩:=Jk M M []
 have X3:Ext (aB.mk M.blks M.next M.hide []) R1:=by rw[a6];exact Ext.aside (Ext.refl M)
 have g1:R1.log= []:=by rw[a6]
 have f4:=Jl a6 hM
 have a9:=aB.lt_of_get e5
 have g6:=cF a6 e5
 obtain⟨h4,h7,a2,g2,f6,e0,d4,c2,e8⟩:=aL (x:=(ad.out,v)) f4 Hz (⟨_,_,rfl,AP.Ext (R:=aW) (AP.log (R:=aW) c9) X3,rfl⟩)
 have e4:=d4.old g6
 have G9:aH (dR ad.out v) h4 a2:=e8
 obtain⟨a7,c8,b8⟩:=aJ.form G9
 subst b8
 have d0:a2.log= []:=by rw[<-e0];exact g1
 have b4:=X3.trans d4
 have b3:=aB.lt_of_get e4
 obtain⟨w23,h8,a3,g3,f7,e1,d5,c3,e9⟩:=aL (x:=(ad,dR ad.out v)) c2 Sl (⟨⟨_,_,rfl,AP.Ext (R:=eT 118) (AP.log (R:=eT 118) a8) b4,G9⟩,b2,qK (p:=fun r=> ∀j∈r,0<=j/\j<(ad.set.length:Int)) (fun r hr=>(b2.1 r hr).2) (fun _ h=>by cases h) v⟩)
 have f3:=d5.old e4
 have b9:w23=(i64 (eZ ad.set (dR ad.out v))):=e9
 subst b9
 have d1:a3.log= []:=by rw[<-e1];exact d0
 have b1:=b4.trans d5
 obtain⟨h5,h9,a4,g4,f8,e2,e6,c4,f0⟩:=aL (x:=(ad.inn,v)) c3 Hz (⟨_,_,rfl,AP.Ext (R:=aW) (AP.log (R:=aW) c7) b1,rfl⟩)
 have d6:aH (dR ad.inn v) h5 a4:=f0
 obtain⟨b6,b7,c0⟩:=aJ.form d6
 subst c0
 have d2:a4.log= []:=by rw[<-e2];exact d1
 have b5:=b1.trans e6
 obtain⟨h6,i0,a1,g5,g0,e3,e7,c5,f1⟩:=aL (x:=(ad,dR ad.inn v)) c4 Sl (⟨⟨_,_,rfl,AP.Ext (R:=eT 118) (AP.log (R:=eT 118) a8) b5,d6⟩,b2,qK (p:=fun r=> ∀j∈r,0<=j/\j<(ad.set.length:Int)) (fun r hr=>(b2.2.1 r hr).2) (fun _ h=>by cases h) v⟩)
 have c1:h6=(i64 (eZ ad.set (dR ad.inn v))):=f1
 subst c1
 have d3:a1.log= []:=by rw[<-e3];exact d2
 have d7:=b5.trans e7
 obtain⟨b0,a5⟩: ∃m:aB,m=(aB.mk a1.blks a1.next a1.hide (a1.log++M.log)):=⟨_,rfl⟩
 have f2:Ext M b0:=by rw[a5];exact Ext.join (Ext.refl M) (d7)
 have c6:aA b0:=by rw[a5];exact c5
 have a0:oT prog [] 60 Tryz.f104 q104 [pt ab 0,i64 v] M [aR 11 (aC Eo 0 ad.out.length co),bJ 15 (.slice a7 (dR ad.out v).length c8) a2,bJ 17 (i64 (eZ ad.set (dR ad.out v))) a3,aR 27 (aC Ei 0 ad.inn.length ci),bJ 31 (.slice b6 (dR ad.inn v).length b7) a4,bJ 33 (i64 (eZ ad.set (dR ad.inn v))) a1] 4=some (.ret,some (i64 (Mv (eZ ad.set (dR ad.out v)) (eZ ad.set (dR ad.inn v)))),aB.mk a1.blks a1.next M.hide (a1.log++M.log),[qL 30 ab 0 (aB.mk M.blks M.next M.hide []) (aC Eo 0 ad.out.length co),qC 105 [aC Eo 0 ad.out.length co,i64 v] (aB.mk M.blks M.next M.hide []) (.slice a7 (dR ad.out v).length c8) a2,qC 112 [pt ab 0,.slice a7 (dR ad.out v).length c8] (aB.mk a2.blks a2.next M.hide a2.log) (i64 (eZ ad.set (dR ad.out v))) a3,qL 30 ab 1 (aB.mk a3.blks a3.next (aV 3584 [⟨7,1,a2.next,a3.next⟩,⟨6,1,M.next,a2.next⟩,⟨4,1,M.next,M.next⟩]++M.hide) a3.log) (aC Ei 0 ad.inn.length ci),qT (Nat.blt ab M.next),qC 105 [aC Ei 0 ad.inn.length ci,i64 v] (aB.mk a3.blks a3.next M.hide a3.log) (.slice b6 (dR ad.inn v).length b7) a4,qC 112 [pt ab 0,.slice b6 (dR ad.inn v).length b7] (aB.mk a4.blks a4.next M.hide a4.log) (i64 (eZ ad.set (dR ad.inn v))) a1,qT (cZ [ab] a1.log)]):=by kernel_rfl
 have g7:aB.mk M.blks M.next M.hide []=R1:=a6.symm
 have g8:=pT ((Ext.refl M).hide.trans (b4).hide.symm)
 have g9:=pT ((Ext.refl M).hide.trans (b1).hide.symm)
 have h0:=Gs 3584 [⟨7,1,a2.next,a3.next⟩,⟨6,1,M.next,a2.next⟩,⟨4,1,M.next,M.next⟩] ((Ext.refl M).hide.trans (b1).hide.symm)
 have h1:=pT ((Ext.refl M).hide.trans (b5).hide.symm)
 have h2:=Dr (L:=(a1.log++M.log)) ((Ext.refl M).hide.trans (d7).hide.symm)
 have h3:(aB.mk a1.blks a1.next a1.hide (a1.log++M.log))=b0:=a5.symm
 try rw[g7] at a0
 try rw[g8] at a0
 try rw[g9] at a0
 try rw[h0] at a0
 try rw[h1] at a0
 try rw[h2] at a0
 try rw[h3] at a0
 exact⟨i64 (Mv (eZ ad.set (dR ad.out v)) (eZ ad.set (dR ad.inn v))),b0,Ev.told_tmp aG aF Tryz.func104 Xc (by kernel_rfl) rK104 (fun B=>lV (gH 112 Q112 (gH 105 Vm (gL _)))) (fun _ _=>rfl) a0 (hk (lC zC g6 rfl) (hk (aK rfl g2 f6 e0) (hk (aK rfl g3 f7 e1) (hk (lC zC (bV.2 ⟨dC (by simp;omega),f3⟩) rfl) (hk (lG a9) (hk (aK rfl g4 f8 e2) (hk (aK rfl g5 g0 e3) (hk (eA (by rw[d3];simp<;>omega)) hn)))))))),f2,c6,rfl⟩
abbrev Q104:=FC (gN (lX (eT 118) pI) fun x=>rE x.1) (plain pI) (fun x=>jZ x.1 x.2)
theorem Zc{x:eV×Int}{lv:List Value}{M:aB}(hM:aA M)(h:(gN (lX (eT 118) pI) fun x:eV×Int=>rE x.1) x lv M): ∃v M',kR prog [] 104 Q104 lv M v M':=by
 refine FC.con h ?_
 obtain⟨⟨g0,g1,rfl,k0,k1⟩,a8⟩:=h
 obtain⟨ad,v⟩:=x
 obtain rfl:=k1
 have a3:=k0
 obtain⟨ab,o,i_,t,s,rfl,a7,a1,a0,a4,a2⟩:=k0
 obtain⟨Eo,co,rfl⟩:=eY a1
 obtain⟨Ei,ci,rfl⟩:=eY a0
 obtain⟨at_,ct,rfl⟩:=aJ.form a4
 obtain⟨a5,a6,rfl⟩:=aJ.form a2
 obtain⟨v',M',h1,h2,_,h3⟩:=w29 ab Eo Ei co ci at_ ct a5 a6 ad v hM a7 a1 a0 a4 a2 a8 a3
 exact⟨v',M',h1,h2,h3⟩
open Tryz
theorem Zi:(prog.underlying 81).map dV=some false:=by kernel_rfl
theorem Nu:(prog.underlying 83).map dV=some true:=by kernel_rfl
theorem Fe:(prog.info? 83).map (·.size)=some 2:=by kernel_rfl
theorem Ue(M:aB): ∀k:Nat,k<32->Go.Am.arun prog [] Bs 1000 103 [.int .u64 (k:Int)] M=some (i64 ((Iy k:Nat):Int),M):=by
 intro k h
 have hc:k=0\/k=1\/k=2\/k=3\/k=4\/k=5\/k=6\/k=7\/k=8\/k=9\/k=10\/k=11\/k=12\/k=13\/k=14\/k=15\/k=16\/k=17\/k=18\/k=19\/k=20\/k=21\/k=22\/k=23\/k=24\/k=25\/k=26\/k=27\/k=28\/k=29\/k=30\/k=31:=by omega
 rcases hc with rfl|rfl|rfl|rfl|rfl|rfl|rfl|rfl|rfl|rfl|rfl|rfl|rfl|rfl|rfl|rfl|rfl|rfl|rfl|rfl|rfl|rfl|rfl|rfl|rfl|rfl|rfl|rfl|rfl|rfl|rfl|rfl<;>(show Go.Am.arun prog [] Bs 1000 103 _ M=_)<;>kernel_rfl
abbrev Q103:=FC (gN (sZ pU) fun k=>k<32) (plain pI) (fun k=>((Iy k:Nat):Int))
theorem Zb{k:Nat}{lv:List Value}{M:aB}(hM:aA M)(h:(gN (sZ pU) fun k=>k<32) k lv M): ∃v M',kR prog [] 103 Q103 lv M v M':=by
 refine FC.con h ?_
 obtain⟨⟨g0,rfl,rfl⟩,hk⟩:=h
 exact⟨_,M,Ev.of_spec (fun B=>dG.arun aG aF cO.none 1000 103) (Ue M k hk),Ext.refl M,rfl⟩
theorem rK88:Tryz.f88.results= #[.tmp 4]:=by kernel_rfl
theorem Yp(n ab:Nat)(ad:eV)(v:Int){M:aB}(hM:aA M)(a6:eT 118 ad (pt ab 0) M)(a7:rE ad): ∃v_ M',Ev prog [] 88 [.agg ⟨[i64 (n:Int),pt ab 0]⟩,i64 v] M v_ M'/\Ext M M'/\aA M'/\v_= .bool (jN ad v):=by
 obtain⟨b1,M2,b7,b8,g5,E6,b9⟩:=bC hM ⟨[i64 (n:Int),pt ab 0],83,2,0,true⟩
 have X9:=(Ext.refl M).trans E6
 obtain⟨c4,c6,a0,c2,c0,b5,a8,a4,b0⟩:=aL (x:=(ad,v)) b9 Zc (⟨⟨_,_,rfl,AP.Ext (R:=eT 118) a6 X9,rfl⟩,a7⟩)
 have a2:c4=(i64 (jZ ad v)):=b0
 subst a2
 have b3:=X9.trans a8
 obtain⟨c5,c7,a1,c3,c1,b6,a9,a5,b2⟩:=aL (x:=(jZ ad v).toNat) a4 Zb (⟨⟨_,rfl,congrArg (Value.int .u64) (wrapU (rV a7 v))⟩,by have:=rV a7 v;omega⟩)
 have a3:c5=(i64 ((Iy (jZ ad v).toNat:Nat):Int)):=b2
 subst a3
 have b4:=b3.trans a9
 exact⟨.bool (decide (((Iy (jZ ad v).toNat:Nat):Int)>=(2:Int))),a1,Ev.told_tmp (tb:=[]) (n:=60) (F:=[bJ 1 (pt b1 0) M2,aR 7 (pt ab 0),bJ 11 (i64 (jZ ad v)) a0,bJ 15 (i64 ((Iy (jZ ad v).toNat:Nat):Int)) a1]) aG aF Tryz.func88 aA2 (by kernel_rfl) rK88 (fun B=>lV (gH 103 Q103 (gH 104 Q104 (gL _)))) (fun _ _=>rfl) (by kernel_rfl) (hq (.eq (eI prog 83 (.agg ⟨[i64 (n:Int),pt ab 0]⟩) M) (1,.val (pt b1 0),M2)) (bN (by rw[<-b7,<-b8];kernel_rfl) xAc) (hk (lO 1 Zi g5 rfl) (hq (qC 104 [pt ab 0,i64 v] M2 (i64 (jZ ad v)) a0) (aK rfl c2 c0 b5) (hq (qC 103 [.int .u64 (IntKind.wrap .u64 (jZ ad v))] a0 (i64 ((Iy (jZ ad v).toNat:Nat):Int)) a1) (aK rfl c3 c1 b6) hn)))),b4,a5,rfl⟩
abbrev Q88:=FC (gN (lX (mV 118) pI) fun x=>rE x.1.2) (plain pB) (fun x=>jN x.1.2 x.2)
theorem Sq{x:(Nat×eV)×Int}{lv:List Value}{M:aB}(hM:aA M)(h:(gN (lX (mV 118) pI) fun x:(Nat×eV)×Int=>rE x.1.2) x lv M): ∃v M',kR prog [] 88 Q88 lv M v M':=by
 refine FC.con h ?_
 obtain⟨⟨g0,g1,rfl,k0,k1⟩,a1⟩:=h
 obtain⟨⟨n,ad⟩,v⟩:=x
 obtain rfl:=k1
 obtain⟨p,rfl,a0⟩:=k0
 obtain⟨ab,o,i_,t,s,rfl,gab,hout,hinn,hto,hset⟩:=id a0
 obtain⟨v',M',h1,h2,_,h3⟩:=Yp n ab ad v hM a0 a1
 exact⟨v',M',h1,h2,h3⟩
theorem rK61:Tryz.f61.results= #[.tmp 4]:=by kernel_rfl
theorem w25(n ab:Nat)(ad:eV)(v:Int){M:aB}(hM:aA M)(a6:eT 118 ad (pt ab 0) M)(c2:rE ad): ∃v_ M',Ev prog [] 61 [.agg ⟨[i64 (n:Int),pt ab 0]⟩,i64 v] M v_ M'/\Ext M M'/\aA M'/\v_=i64 ((dU ad v:Nat):Int):=by
 obtain⟨b1,M2,d9,e0,g5,E6,e2⟩:=bC hM ⟨[i64 (n:Int),pt ab 0],83,2,0,true⟩
 have X9:=(Ext.refl M).trans E6
 obtain⟨c9,a3⟩:=Jk M2 M2 []
 have d0:=Nk a3 X9
 have c3:c9.log= []:=by rw[a3]
 have b8:=Jl a3 e2
 have a5:=aB.lt_of_get g5
 have d4:=cF a3 g5
 obtain⟨f2,f4,a2,e5,e3,d2,c6,b9,d6⟩:=aL (x:=(ad,v)) b8 con89 (⟨⟨_,_,rfl,AP.Ext (R:=eT 118) (AP.log (R:=eT 118) a6) d0,rfl⟩,c2⟩)
 have e1:=c6.old d4
 have c7:aH (dR ad.out v) f2 a2:=iE.out (R:=aH) d6
 obtain⟨b2,b4,b6⟩:=aJ.form c7
 subst b6
 have a7:=aJ.ln c7
 have c4:a2.log= []:=by rw[<-d2];exact c3
 have b0:=d0.trans c6
 obtain⟨f3,f6,a0,e6,e4,d3,d5,c0,d7⟩:=aL (x:=(ad,v)) b9 con90 (⟨⟨_,_,rfl,AP.Ext (R:=eT 118) (AP.log (R:=eT 118) a6) b0,rfl⟩,c2⟩)
 have c8:aH (dR ad.inn v) f3 a0:=iE.out (R:=aH) d7
 obtain⟨b3,b5,b7⟩:=aJ.form c8
 subst b7
 have a8:=aJ.ln c8
 have c5:a0.log= []:=by rw[<-d3];exact c4
 have d1:=b0.trans d5
 obtain⟨a9,a4⟩: ∃m:aB,m=(aB.mk a0.blks a0.next a0.hide (a0.log++M2.log)):=⟨_,rfl⟩
 have d8:Ext M a9:=by rw[a4];exact Ext.join (X9) (d1)
 have c1:aA a9:=by rw[a4];exact c0
 have a1:oT prog [] 60 Tryz.f61 q61 [.agg ⟨[i64 (n:Int),pt ab 0]⟩,i64 v] M [bJ 1 (pt b1 0) M2,aR 7 (pt ab 0),bJ 11 (.slice b2 (dR ad.out v).length b4) a2,aQ 13,aR 17 (pt ab 0),bJ 21 (.slice b3 (dR ad.inn v).length b5) a0,aQ 23] 4=some (.ret,some (i64 (IntKind.wrap .i64 ((((dR ad.out v).length:Nat):Int)+(((dR ad.inn v).length:Nat):Int)))),aB.mk a0.blks a0.next M2.hide (a0.log++M2.log),[.eq (eI prog 83 (.agg ⟨[i64 (n:Int),pt ab 0]⟩) M) (1,.val (pt b1 0),M2),qL 81 b1 1 (aB.mk M2.blks M2.next M2.hide []) (pt ab 0),qC 89 [pt ab 0,i64 v] (aB.mk M2.blks M2.next M2.hide []) (.slice b2 (dR ad.out v).length b4) a2,.ln b2 (dR ad.out v).length b4,qL 81 b1 1 (aB.mk a2.blks a2.next (aV 32 [⟨3,1,M2.next,a2.next⟩,⟨1,1,M2.next,M2.next⟩]++M2.hide) a2.log) (pt ab 0),qT (Nat.blt b1 M2.next),qC 90 [pt ab 0,i64 v] (aB.mk a2.blks a2.next M2.hide a2.log) (.slice b3 (dR ad.inn v).length b5) a0,.ln b3 (dR ad.inn v).length b5,qT (cZ [b1] a0.log)]):=by kernel_rfl
 have e7:aB.mk M2.blks M2.next M2.hide []=c9:=a3.symm
 have e8:=pT ((X9).hide.trans (b0).hide.symm)
 have e9:=Gs 32 [⟨3,1,M2.next,a2.next⟩,⟨1,1,M2.next,M2.next⟩] ((X9).hide.trans (b0).hide.symm)
 have f0:=Dr (L:=(a0.log++M2.log)) ((X9).hide.trans (d1).hide.symm)
 have f1:(aB.mk a0.blks a0.next a0.hide (a0.log++M2.log))=a9:=a4.symm
 try rw[e7] at a1
 try rw[e8] at a1
 try rw[e9] at a1
 try rw[f0] at a1
 try rw[f1] at a1
 exact⟨i64 (IntKind.wrap .i64 ((((dR ad.out v).length:Nat):Int)+(((dR ad.inn v).length:Nat):Int))),a9,Ev.told_tmp aG aF Tryz.func61 aAS (by kernel_rfl) rK61 (fun B=>lV (gH 89 Q89 (gH 90 Q90 (gL _)))) (fun _ _=>rfl) a1 (hk (bN (by rw[<-d9,<-e0];kernel_rfl) xAc) (hk (lC Zi d4 rfl) (hk (aK rfl e5 e3 d2) (hk (lN a7) (hk (lC Zi (bV.2 ⟨dC (by simp;omega),e1⟩) rfl) (hk (lG a5) (hk (aK rfl e6 e4 d3) (hk (lN a8) (hk (eA (by rw[c5];simp<;>omega)) hn))))))))),d8,c1,congrArg i64 (Et (by have:=tM c2 v;unfold dU at this;omega))⟩
abbrev Q61:=FC (gN (lX (mV 118) pI) fun x=>rE x.1.2) (plain pI) (fun x=>((dU x.1.2 x.2:Nat):Int))
theorem Xz{x:(Nat×eV)×Int}{lv:List Value}{M:aB}(hM:aA M)(h:(gN (lX (mV 118) pI) fun x:(Nat×eV)×Int=>rE x.1.2) x lv M): ∃v M',kR prog [] 61 Q61 lv M v M':=by
 refine FC.con h ?_
 obtain⟨⟨g0,g1,rfl,k0,k1⟩,a1⟩:=h
 obtain⟨⟨n,ad⟩,v⟩:=x
 obtain rfl:=k1
 obtain⟨p,rfl,a0⟩:=k0
 obtain⟨ab,o,i_,t,s,rfl,gab,hout,hinn,hto,hset⟩:=id a0
 obtain⟨v',M',h1,h2,_,h3⟩:=w25 n ab ad v hM a0 a1
 exact⟨v',M',h1,h2,h3⟩
theorem rK58:Tryz.f58.results= #[.cell 2 83]:=by kernel_rfl
theorem w20(n:Nat)(al:Option Addr)(cl:Nat)(l:List E4){M:aB}(hM:aA M)(hl:aS l (.slice al l.length cl) M)(e4:fC (n:Int) l=true): ∃v_ M',Ev prog [] 58 [.agg ⟨[i64 (n:Int),.slice al l.length cl]⟩] M v_ M'/\Ext M M'/\aA M'/\iE (mV 118) (n,jA n l) M.next v_ M':=by
 obtain⟨b1,M2,g0,g1,g5,E6,h4⟩:=bC hM ⟨[i64 (n:Int),.slice al l.length cl],26,2,0,true⟩
 have X9:=(Ext.refl M).trans E6
 obtain⟨b6,a6,a8,c1,e0,d5,c6⟩:=bC h4 ⟨[i64 0,.pointer none],83,2,0,true⟩
 have d4:=lQ a8 X9
 have c5:=d5.old g5
 have d7:=X9.trans d5
 have ltb1M24:=aB.lt_of_get c5
 have ltb10M24:=aB.lt_of_get e0
 obtain⟨i4,i5,b3,i0,h5,f7,b7,c7,e5⟩:=aL (x:=(n,l)) c6 con85 (⟨⟨_,rfl,_,rfl,AP.Ext (R:=aS) hl d7⟩,e4⟩)
 have e1:=b7.old c5
 have e2:=b7.old e0
 have d6:eT 118 (jA n l) i4 (cI [(0,a6.next)] b3):=kV e5
 obtain⟨a0,_,_,_,_,c3,_⟩:=id d6
 subst c3
 have d8:=d7.trans b7
 obtain⟨a7,b8,a2,c2,g2,b2,c8⟩:=bC c7 ⟨[i64 0,.pointer none],83,2,0,true⟩
 have b0:=lQ a2 d8
 have a3:=fJ e1 a2
 have a1:=fJ e2 a2
 have e6:=jK (R:=(eT 118)) d6 a2 b2
 have g3:=b2.old e1
 have g4:=b2.old e2
 have f2:=d8.trans b2
 obtain⟨b4,q48,g6,a4,d9,c9,h7⟩:=aZ (o:=0) (v:=(.agg ⟨[i64 0,pt a0 0]⟩)) (new:= [i64 0,pt a0 0]) f2 b0 c8 Fe g2 rfl rfl (Nat.zero_le _) (xAd rfl) rfl
 have e7:=hQ (R:=(eT 118)) e6 (fun id h _=>a4 id h) (by intro id hh;simp only [bR] at hh;omega)
 have e3:=(a4 _ a3).trans g3
 have g7:=(a4 _ a1).trans g4
 obtain⟨w57,i6,b9,i1,h6,f8,a5,d0,e8⟩:=aL (x:=((n:Int),l)) c9 Sm (⟨_,rfl,_,rfl,AP.Ext (R:=aS) hl d9⟩)
 have e9:=fT (R:=(eT 118)) e7 a5
 have g8:=a5.old e3
 have g9:=a5.old g7
 have h0:=a5.old g6
 have c4:w57=(.bool (fC (n:Int) l)):=e8
 subst c4
 have f3:=d9.trans a5
 obtain⟨b5,i2,h1,a9,f4,d1,h8⟩:=aZ (o:=0) (v:=(i64 (n:Int))) (new:= [i64 (n:Int),pt a0 0]) f3 b0 d0 Jj h0 rfl rfl (Nat.zero_le _) (xAd rfl) rfl
 have f0:=hQ (R:=(eT 118)) e9 (fun id h _=>a9 id h) (by intro id hh;simp only [bR] at hh;omega)
 have h2:=(a9 _ a1).trans g9
 obtain⟨c0,i3,h3,d3,f6,d2,h9⟩:=aZ (o:=0) (v:=(.agg ⟨[i64 (n:Int),pt a0 0]⟩)) (new:= [i64 (n:Int),pt a0 0]) f4 d4 d1 Fe h2 rfl rfl (Nat.zero_le _) (xAd rfl) rfl
 have f1:=hQ (R:=(eT 118)) f0 (fun id h _=>d3 id h) (by intro id hh;simp only [bR] at hh;omega)
 exact⟨.agg ⟨[i64 (n:Int),pt a0 0]⟩,c0,Ev.told_cell (tb:=[]) (n:=60) (F:=[bJ 1 (pt b1 0) M2,bJ 3 (pt b6 0) a6,aR 5 (.agg ⟨[i64 (n:Int),.slice al l.length cl]⟩),bJ 7 (pt a0 0) b3,bJ 11 (pt a7 0) b8,jE 13 b4,aR 15 (.agg ⟨[i64 (n:Int),.slice al l.length cl]⟩),bJ 17 (.bool (fC (n:Int) l)) b9,aQ 18,aR 22 (i64 (n:Int)),jE 26 b5,aR 28 (.agg ⟨[i64 (n:Int),pt a0 0]⟩),jE 30 c0]) aG aF Tryz.func58 aAP (by kernel_rfl) rK58 (fun B=>lV (gH 85 Q85 (gH 24 Q24 (gL _)))) (fun _ _=>rfl) (by kernel_rfl) (mR (a:=⟨b6,0,none⟩) Nu Fe h3 rfl) (hq (.eq (eI prog 26 (.agg ⟨[i64 (n:Int),.slice al l.length cl]⟩) M) (1,.val (pt b1 0),M2)) (bN (by rw[<-g0,<-g1];kernel_rfl) xAc) (hq (.eq (cM prog 83 M2) (1,.val (pt b6 0),a6)) (bN (by rw[<-a8,<-c1];kernel_rfl) xAc) (hq (qL 26 b1 0 a6 (.agg ⟨[i64 (n:Int),.slice al l.length cl]⟩)) (lA ⟨zB,uV⟩ c5 rfl) (hq (qC 85 [.agg ⟨[i64 (n:Int),.slice al l.length cl]⟩] a6 (pt a0 0) b3) (aK rfl i0 h5 f7) (hq (.eq (cM prog 83 b3) (1,.val (pt a7 0),b8)) (bN (by rw[<-a2,<-c2];kernel_rfl) xAc) (hq (qS 83 a7 0 (.agg ⟨[i64 0,pt a0 0]⟩) b8 b4) (dB q48) (hq (qL 26 b1 0 b4 (.agg ⟨[i64 (n:Int),.slice al l.length cl]⟩)) (lA ⟨zB,uV⟩ e3 rfl) (hq (qC 24 [.agg ⟨[i64 (n:Int),.slice al l.length cl]⟩] b4 (.bool (fC (n:Int) l)) b9) (aK rfl i1 h6 f8) (hk (bT e4) (hk (lO 0 bQ g8 rfl) (hq (qS 3 a7 0 (i64 (n:Int)) b9 b5) (dB i2) (hq (qL 83 a7 0 b5 (.agg ⟨[i64 (n:Int),pt a0 0]⟩)) (lA ⟨Nu,Fe⟩ h1 rfl) (hq (qS 83 b6 0 (.agg ⟨[i64 (n:Int),pt a0 0]⟩) b5 c0) (dB i3) hn))))))))))))),f6,d2,⟨_,rfl,Gk (R:=eT 118) f1 (by intro id hh;simp only [bR] at hh;omega)⟩⟩
abbrev Q58:=FC (gN (sZ mN) fun x=>fC (x.1:Int) x.2=true) (iE (mV 118)) (fun x=>(x.1,jA x.1 x.2))
theorem con58{x:Nat×List E4}{lv:List Value}{M:aB}(hM:aA M)(h:(gN (sZ mN) fun x:Nat×List E4=>fC (x.1:Int) x.2=true) x lv M): ∃v M',kR prog [] 58 Q58 lv M v M':=by
 refine FC.con h ?_
 obtain⟨⟨g0,rfl,k0⟩,a0⟩:=h
 obtain⟨n,l⟩:=x
 obtain⟨_,rfl,hl⟩:=k0
 obtain⟨a,c,rfl⟩:=aJ.form hl
 obtain⟨v,M',h1,h2,_,h3⟩:=w20 n a c l hM hl a0
 exact⟨v,M',h1,h2,h3⟩
open Tryz
theorem r24L(b n ab i:Nat)(S:Value)(ad:eV){M M0:aB}(hM:aA M)(X0:Ext M0 M)(gb:M.get b=some ⟨[i64 n,pt ab 0],83,2,0,true⟩)(a0:eT 118 ad (pt ab 0) M0)(a8:rE ad)(a2:(decide ((i:Int)<(n:Int)))=true)(a3:(jN ad (i:Int))=true): ∃T1 M',Rd prog [] (q60.loopAt 0) Tryz.f60.ntmps (fr [(1,(pt b 0)),(3,S),(6,(i64 (n:Int))),(7,(i64 (i:Int)))]) M .normal T1 M'/\ [1,3,6,7].map T1.get= [some (pt b 0),some S,some (i64 (n:Int)),some (i64 (IntKind.wrap .i64 ((i:Int)+(1:Int))))]/\Ext M0 M'/\aA M'/\M'.get b=some ⟨[i64 (n:Int),pt ab 0],83,2,0,true⟩/\ ∀id k,M.get id=some k->id≠b->M'.get id=some k:=by
 obtain⟨w1,N2,M3,p4,l5,e6,E7,a6,F9⟩:=aL (x:=((n,ad),(i:Int))) hM Sq (⟨⟨_,_,rfl,⟨_,rfl,AP.Ext (R:=(eT 118)) a0 X0⟩,rfl⟩,a8⟩)
 have a5:=E7.old gb
 have a4:w1=(.bool (jN ad (i:Int))):=F9
 subst a4
 have a1:=X0.trans E7
 have a7: ∀id k,M.get id=some k->id≠b->M3.get id=some k:=fun id k g h_b=>by
  have g:=E7.old g
  exact g
 obtain⟨T1,h1,h2⟩:=Rd.told (tb:=[]) (n:=60) (F:=[aQ 2,aR 8 (.agg ⟨[i64 (n:Int),pt ab 0]⟩),bJ 12 (.bool (jN ad (i:Int))) M3,aO 15]) aG aF (fun B=>lV (gH 88 Q88 (gL _))) (fun _ _=>rfl) (by kernel_rfl) (hk (bT a2) (hq (qL 83 b 0 M (.agg ⟨[i64 (n:Int),pt ab 0]⟩)) (lA ⟨Nu,Fe⟩ gb rfl) (hq (qC 88 [.agg ⟨[i64 (n:Int),pt ab 0]⟩,i64 (i:Int)] M (.bool (jN ad (i:Int))) M3) (aK rfl p4 l5 e6) (hk (bF (x:=!(jN ad (i:Int))) (by rw[a3];rfl)) hn))))
 exact⟨T1,M3,h1,h2,a1,a6,a5,a7⟩
theorem r24x(b n i:Nat)(S:Value){M:aB}(a0:(decide ((i:Int)<(n:Int)))=false): ∃T1,Rd prog [] (q60.loopAt 0) Tryz.f60.ntmps (fr [(1,(pt b 0)),(3,S),(6,(i64 (n:Int))),(7,(i64 (i:Int)))]) M (.exit 0) T1 M/\ [3].map T1.get= [some S]:=by
 exact Rd.told (tb:=[]) (n:=60) (F:=[aO 2]) aG aF (aI prog) (fun _ _=>rfl) (by kernel_rfl) (hk (bF a0) hn)
theorem r24N(b n ab i:Nat)(ad:eV){M M0:aB}(hM:aA M)(X0:Ext M0 M)(gb:M.get b=some ⟨[i64 n,pt ab 0],83,2,0,true⟩)(b2:eT 118 ad (pt ab 0) M0)(c7:rE ad)(b7:(decide ((i:Int)<(n:Int)))=true)(b8:(jN ad (i:Int))=false): ∃T1 M' a0,Rd prog [] (q60.loopAt 0) Tryz.f60.ntmps (fr [(1,(pt b 0)),(3,eW),(6,(i64 (n:Int))),(7,(i64 (i:Int)))]) M .normal T1 M'/\ [1,3,6,7].map T1.get= [some (pt b 0),some (aC a0 0 1 1),some (i64 (n:Int)),some (i64 (IntKind.wrap .i64 ((i:Int)+(1:Int))))]/\Ext M0 M'/\aA M'/\M'.get b=some ⟨[i64 (n:Int),pt ab 0],83,2,0,true⟩/\M0.next<=a0/\M'.get a0=some ⟨[i64 (i:Int)],3,1,0,true⟩/\ ∀id k,M.get id=some k->id≠b->M'.get id=some k:=by
 obtain⟨w1,N2,M3,p4,l5,e6,E7,c5,F9⟩:=aL (x:=((n,ad),(i:Int))) hM Sq (⟨⟨_,_,rfl,⟨_,rfl,AP.Ext (R:=(eT 118)) b2 X0⟩,rfl⟩,c7⟩)
 have c0:=E7.old gb
 have b9:w1=(.bool (jN ad (i:Int))):=F9
 subst b9
 have b5:=X0.trans E7
 obtain⟨a6,a5,a7,a8,c1,a3,b0⟩:=bC c5 ⟨[i64 (i:Int)],3,1,0,true⟩
 have c2:=a3.old c0
 have b4:=b5.trans a3
 obtain⟨a0,a2,a1,a9,c3,a4,b1⟩:=bC b0 ⟨[i64 (i:Int)],3,1,0,true⟩
 have b3:=lQ a1 b4
 have c4:=a4.old c2
 have b6:=b4.trans a4
 have c6: ∀id k,M.get id=some k->id≠b->a2.get id=some k:=fun id k g h_b=>by
  have g:=E7.old g
  have g:=a3.old g
  have g:=a4.old g
  exact g
 obtain⟨T1,h1,h2⟩:=Rd.told (tb:=[]) (n:=60) (F:=[aQ 2,aR 8 (.agg ⟨[i64 (n:Int),pt ab 0]⟩),bJ 12 (.bool (jN ad (i:Int))) M3,aQ 15,bJ 21 (aC a6 0 1 2) a5,.at 23 (1,.val (aC a0 0 1 1),a2)]) aG aF (fun B=>lV (gH 88 Q88 (gL _))) (fun _ _=>rfl) (by kernel_rfl) (hk (bT b7) (hq (qL 83 b 0 M (.agg ⟨[i64 (n:Int),pt ab 0]⟩)) (lA ⟨Nu,Fe⟩ gb rfl) (hq (qC 88 [.agg ⟨[i64 (n:Int),pt ab 0]⟩,i64 (i:Int)] M (.bool (jN ad (i:Int))) M3) (aK rfl p4 l5 e6) (hk (bT (x:=!(jN ad (i:Int))) (by rw[b8];rfl)) (hq (.eq (bH prog 22 1 [(0,(i64 (i:Int)))] M3) (1,.val (aC a6 0 1 2),a5)) (bN (by rw[<-a7,<-a8];kernel_rfl) xAc) (hq (.q (.append [22,22] eW (aC a6 0 1 2) a5) (1,.val (aC a0 0 1 1),a2)) (kB (by rw[<-a1,<-a9];exact append_nil (w:=1) (by kernel_rfl) (by kernel_rfl) (y:=8) (by kernel_rfl) (by decide) (by decide) c1 rfl rfl rfl) xAc) hn))))))
 exact⟨T1,a2,a0,h1,h2,b6,b1,c4,b3,c3,c6⟩
theorem r24G(b n ab i:Nat)(ad:eV)(r k:Nat)(cr:List Value){M M0:aB}(hM:aA M)(X0:Ext M0 M)(gb:M.get b=some ⟨[i64 n,pt ab 0],83,2,0,true⟩)(b2:eT 118 ad (pt ab 0) M0)(d1:rE ad)(hr:M0.next<=r)(gr:M.get r=some ⟨cr,3,1,0,true⟩)(c9:b≠r)(b9:(decide ((i:Int)<(n:Int)))=true)(c0:(jN ad (i:Int))=false)(b6:k<1073741824/\(cr).length=k*1): ∃T1 M' a0,Rd prog [] (q60.loopAt 0) Tryz.f60.ntmps (fr [(1,(pt b 0)),(3,(aC r 0 k k)),(6,(i64 (n:Int))),(7,(i64 (i:Int)))]) M .normal T1 M'/\ [1,3,6,7].map T1.get= [some (pt b 0),some (aC a0 0 (k+1) (k+1)),some (i64 (n:Int)),some (i64 (IntKind.wrap .i64 ((i:Int)+(1:Int))))]/\Ext M0 M'/\aA M'/\M'.get b=some ⟨[i64 (n:Int),pt ab 0],83,2,0,true⟩/\M0.next<=a0/\M'.get a0=some ⟨cr++ [i64 (i:Int)],3,1,0,true⟩/\ ∀id k,M.get id=some k->id≠b->id≠r->M'.get id=some k:=by
 obtain⟨w1,N2,M3,p4,l5,e6,E7,c8,F9⟩:=aL (x:=((n,ad),(i:Int))) hM Sq (⟨⟨_,_,rfl,⟨_,rfl,AP.Ext (R:=(eT 118)) b2 X0⟩,rfl⟩,d1⟩)
 have c2:=E7.old gb
 have c3:=E7.old gr
 have c1:w1=(.bool (jN ad (i:Int))):=F9
 subst c1
 have b7:=X0.trans E7
 obtain⟨a6,a5,a7,a8,c4,a3,b0⟩:=bC c8 ⟨[i64 (i:Int)],3,1,0,true⟩
 have b5:=a3.old c2
 have c5:=a3.old c3
 have b4:=b7.trans a3
 obtain⟨a0,a4,a1,a9,c6,b8,b1,a2⟩:=tO b4 hr b0 ⟨cr++ [i64 (i:Int)],3,1,0,true⟩
 have b3:=lQ a1 b4
 have c7:=(a2 _ c9 (aB.lt_of_get b5)).trans b5
 have d0: ∀id k,M.get id=some k->id≠b->id≠r->a4.get id=some k:=fun id k g h_b h_r=>by
  have g:=E7.old g
  have g:=a3.old g
  have g:=(a2 id h_r (aB.lt_of_get g)).trans g
  exact g
 obtain⟨T1,h1,h2⟩:=Rd.told (tb:=[]) (n:=60) (F:=[aQ 2,aR 8 (.agg ⟨[i64 (n:Int),pt ab 0]⟩),bJ 12 (.bool (jN ad (i:Int))) M3,aQ 15,bJ 21 (aC a6 0 1 2) a5,.at 23 (2,.val (aC a0 0 (k+1) (k+1)),a4)]) aG aF (fun B=>lV (gH 88 Q88 (gL _))) (fun _ _=>rfl) (by kernel_rfl) (hk (bT b9) (hq (qL 83 b 0 M (.agg ⟨[i64 (n:Int),pt ab 0]⟩)) (lA ⟨Nu,Fe⟩ gb rfl) (hq (qC 88 [.agg ⟨[i64 (n:Int),pt ab 0]⟩,i64 (i:Int)] M (.bool (jN ad (i:Int))) M3) (aK rfl p4 l5 e6) (hk (bT (x:=!(jN ad (i:Int))) (by rw[c0];rfl)) (hq (.eq (bH prog 22 1 [(0,(i64 (i:Int)))] M3) (1,.val (aC a6 0 1 2),a5)) (bN (by rw[<-a7,<-a8];kernel_rfl) xAc) (hq (.q (.append [22,22] (aC r 0 k k) (aC a6 0 1 2) a5) (2,.val (aC a0 0 (k+1) (k+1)),a4)) (kB (by rw[<-a1,<-a9];exact nI (w:=1) (by kernel_rfl) (by kernel_rfl) (by kernel_rfl) (y:=8) (by kernel_rfl) (by decide) (by decide) b6.1 c4 rfl rfl rfl c5 b6.2 rfl rfl rfl rfl) (Nat.succ_ne_zero _)) hn))))))
 exact⟨T1,a4,a0,h1,h2,b8,b1,c7,b3,c6,d0⟩
theorem Zs{b n ab:Nat}{ad:eV}{M:aB}(hM:aA M)(gb:M.get b=some ⟨[i64 n,pt ab 0],83,2,0,true⟩)(a0:eT 118 ad (pt ab 0) M)(a3:rE ad)(hn:n<=60):
  ∃S M',bL prog [] (q60.loopAt 0) Tryz.f60.ntmps (fr [(1,pt b 0),(3,eW),(6,i64 n),(7,i64 ((0:Nat):Int))]) M (.exit 0) (fr [(3,S)]) M'/\Ext M M'/\aA M'/\Jm M M' S (dN ad n):=by
 have hb:=aB.lt_of_get gb
 obtain⟨S,M',h1,h2,h3,_,h4⟩:=bL.for (P:=prog) (GL:= []) (b:=q60.loopAt 0) (nt:=Tryz.f60.ntmps) (id:=0) (σ:=Value) (n:=n) (Inv:=fun i S M1=>Ext M M1/\aA M1/\M1.get b=some ⟨[i64 n,pt ab 0],83,2,0,true⟩/\Jm M M1 S (dN ad i))
  (F:=fun i S=> [(1,pt b 0),(3,S),(6,i64 n),(7,i64 ((i:Nat):Int))])
  (O:=fun S=> [(3,S)])
  (by
   rintro i S M1 hi ⟨X1,a1,a2,hA⟩
   cases hl:jN ad (i:Int) with
   |true=>
    obtain⟨T1,M2,h1,h2,h3,h4,h5,h6⟩:=r24L b n ab i S ad a1 X1 a2 a0 a3 (xAb (by omega)) hl
    rw[bD (by omega)] at h2
    refine⟨S,T1,M2,h1,h2,h3,h4,h5,?_⟩
    rw[vC,hl,if_pos rfl,List.append_nil]
    exact hA.keep fun id k hid hg=>h6 id k hg (by omega)
   |false=>
    rw[vC,hl,if_neg (by decide)]
    have hlen:=sB ad i
    rcases hA with⟨rfl,h0⟩|⟨r,rfl,h0,hr,hg⟩
    ·obtain⟨T1,M2,b2,h1,h2,h3,h4,h5,h6,h7,_⟩:=r24N b n ab i ad a1 X1 a2 a0 a3 (xAb (by omega)) hl
     rw[bD (by omega)] at h2
     exact⟨_,T1,M2,h1,h2,h3,h4,h5,.inr ⟨b2,by rw[h0];rfl,by simp,h6,by rw[h7,h0];rfl⟩⟩
    ·obtain⟨T1,M2,b2,h1,h2,h3,h4,h5,h6,h7,_⟩:=r24G b n ab i ad r (dN ad i).length _ a1 X1 a2 a0 a3 hr hg (by omega) (xAb (by omega)) hl ⟨by omega,by simp⟩
     rw[bD (by omega)] at h2
     exact⟨_,T1,M2,h1,h2,h3,h4,h5,.inr ⟨b2,by rw[List.length_append];rfl,by simp,h6,by rw[h7,List.map_append];rfl⟩⟩)
  (by
   rintro S M1 ⟨X1,a1,_⟩
   exact r24x b n n S (M:=M1) (xAa (by omega)))
  n 0 (by omega) (s:=eW) (M:=M) ⟨Ext.refl M,hM,gb,.inl ⟨rfl,rfl⟩⟩
 exact⟨S,M',h1,h2,h3,h4⟩
theorem rK60:Tryz.f60.results= #[.tmp 2]:=by kernel_rfl
theorem w24(n ab:Nat)(ad:eV){M:aB}(hM:aA M)(a4:eT 118 ad (pt ab 0) M)(b3:rE ad)(b2:n<=60): ∃v_ M',Ev prog [] 60 [.agg ⟨[i64 (n:Int),pt ab 0]⟩] M v_ M'/\Ext M M'/\aA M'/\iE aH (dN ad n) M.next v_ M':=by
 obtain⟨b1,M2,a8,a9,g5,E6,b0⟩:=bC hM ⟨[i64 (n:Int),pt ab 0],83,2,0,true⟩
 have X9:=(Ext.refl M).trans E6
 obtain⟨a1,a0,a2,a6,a3,a5⟩:=Zs b0 g5 (AP.Ext (R:=(eT 118)) a4 X9) b3 b2
 have a7:=X9.trans a6
 exact⟨a1,a0,Ev.told_tmp (tb:=[0]) (n:=60) (F:=[bJ 1 (pt b1 0) M2,aR 9 (i64 (n:Int)),.blk 12 [1,3,6,7] .normal (fr [(3,a1)]) a0]) aG aF Tryz.func60 aAR (by kernel_rfl) rK60 (fun B=>wR (gL B) 0 a2) (fun _ h=>bZ h) (by kernel_rfl) (hq (.eq (eI prog 83 (.agg ⟨[i64 (n:Int),pt ab 0]⟩) M) (1,.val (pt b1 0),M2)) (bN (by rw[<-a8,<-a9];kernel_rfl) xAc) (hk (lO 0 bQ g5 rfl) (hq (.blk 0 (.loop (q60.loopAt 0)) Tryz.f60.ntmps [1,3,6,7] [some (pt b1 0),some eW,some (i64 (n:Int)),some (i64 0)] M2 .normal (fr [(3,a1)]) a0) (fB rfl) hn))),a7,a3,Jm.new a5 (Nat.le_trans (sB ad n) (by omega)) (X9).next⟩
abbrev Q60:=FC (gN (sZ (mV 118)) fun x=>rE x.2/\x.1<=60) (iE aH) (fun x=>dN x.2 x.1)
theorem con60{x:Nat×eV}{lv:List Value}{M:aB}(hM:aA M)(h:(gN (sZ (mV 118)) fun x:Nat×eV=>rE x.2/\x.1<=60) x lv M): ∃v M',kR prog [] 60 Q60 lv M v M':=by
 refine FC.con h ?_
 obtain⟨⟨g0,rfl,k0⟩,a1,hn⟩:=h
 obtain⟨n,ad⟩:=x
 obtain⟨p,rfl,a0⟩:=k0
 obtain⟨ab,o,i_,t,s,rfl,gab,hout,hinn,hto,hset⟩:=id a0
 obtain⟨v',M',h1,h2,_,h3⟩:=w24 n ab ad hM a0 a1 hn
 exact⟨v',M',h1,h2,h3⟩
open Tryz
theorem r31(C n ab bb o m c i:Nat)(x z:Int)(cc:List Value)(ad:eV){M M0:aB}(hM:aA M)(X0:Ext M0 M)(hC:M0.next<=C)(gC:M.get C=some ⟨cc,3,1,0,true⟩)(a3:eT 118 ad (pt ab 0) M0)(b6:rE ad)(a7:(decide ((i:Int)<(m:Int)))=true)(a4:bA prog 3 ⟨bb,o+((i:Int):Int).toNat*1,none⟩ M0=some (i64 x))(a1:0<=(((dU ad x:Nat):Int):Int)/\(((dU ad x:Nat):Int):Int)<801)(b4:(cc)[0+(((dU ad x:Nat):Int):Int).toNat*1]?=some (i64 z))(a5:0+(((dU ad x:Nat):Int):Int).toNat*1+1<=(cc).length): ∃T1 M',Rd prog [] (q87.loopAt 0) Tryz.f87.ntmps (fr [(1,(.func (.func 61) ⟨[.agg ⟨[i64 (n:Int),pt ab 0]⟩]⟩ ⟨[]⟩)),(5,(aC C 0 801 802)),(9,(aC bb o m c)),(10,(i64 (m:Int))),(11,(i64 (i:Int)))]) M .normal T1 M'/\ [1,5,9,10,11].map T1.get= [some (.func (.func 61) ⟨[.agg ⟨[i64 (n:Int),pt ab 0]⟩]⟩ ⟨[]⟩),some (aC C 0 801 802),some (aC bb o m c),some (i64 (m:Int)),some (i64 (IntKind.wrap .i64 ((i:Int)+(1:Int))))]/\Ext M0 M'/\aA M'/\M'.get C=some ⟨splice cc (0+(((dU ad x:Nat):Int):Int).toNat*1) [i64 (IntKind.wrap .i64 (z+(1:Int)))],3,1,0,true⟩/\ ∀id k,M.get id=some k->id≠C->M'.get id=some k:=by
 obtain⟨w1,N2,M3,p4,l5,e6,E7,b3,F9⟩:=aL (x:=((n,ad),x)) hM Xz (⟨⟨_,_,rfl,⟨_,rfl,AP.Ext (R:=(eT 118)) a3 X0⟩,rfl⟩,b6⟩)
 have a8:=E7.old gC
 have b1:w1=(i64 ((dU ad x:Nat):Int)):=F9
 subst b1
 have a9:=X0.trans E7
 obtain⟨a0,b8,b2,a6,b0,a2,b7⟩:=aZ (o:=0+(((dU ad x:Nat):Int):Int).toNat*1) (v:=(i64 (IntKind.wrap .i64 (z+(1:Int))))) (new:=splice cc (0+(((dU ad x:Nat):Int):Int).toNat*1) [i64 (IntKind.wrap .i64 (z+(1:Int)))]) a9 hC b3 Jj a8 rfl rfl (Nat.zero_le _) a5 rfl
 have b5: ∀id k,M.get id=some k->id≠C->a0.get id=some k:=fun id k g h_C=>by
  have g:=E7.old g
  have g:=((fun id h _=>a6 id h) id h_C (aB.lt_of_get g)).trans g
  exact g
 obtain⟨T1,h1,h2⟩:=Rd.told (tb:=[]) (n:=60) (F:=[aQ 2,aQ 4,aR 6 (i64 x),bJ 16 (i64 ((dU ad x:Nat):Int)) M3,aQ 18,aR 20 (i64 z),aQ 24,jE 26 a0]) aG aF (fun B=>lV (gH 61 Q61 (gL _))) (fun _ _=>rfl) (by kernel_rfl) (hk (bT a7) (hk (qI (i:Int) m (by omega) (by simp at a7;omega)) (hk (lD (aN X0 a4)) (hq (qC 61 [.agg ⟨[i64 (n:Int),pt ab 0]⟩,i64 x] M (i64 ((dU ad x:Nat):Int)) M3) (aK rfl p4 l5 e6) (hk (qI ((dU ad x:Nat):Int) 801 a1.1 a1.2) (hq (qL 3 C (0+(((dU ad x:Nat):Int):Int).toNat*1) M3 (i64 z)) (eO (bI (a:=⟨C,0+(((dU ad x:Nat):Int):Int).toNat*1,none⟩) bQ a8 b4)) (hk (qI ((dU ad x:Nat):Int) 801 a1.1 a1.2) (hq (qS 3 C (0+(((dU ad x:Nat):Int):Int).toNat*1) (i64 (IntKind.wrap .i64 (z+(1:Int)))) M3 a0) (dB b8) hn))))))))
 exact⟨T1,a0,h1,h2,b0,a2,b2,b5⟩
theorem r31x(C n ab:Nat)(a:Option Addr)(m c i:Nat){M:aB}(a0:(decide ((i:Int)<(m:Int)))=false): ∃T1,Rd prog [] (q87.loopAt 0) Tryz.f87.ntmps (fr [(1,(.func (.func 61) ⟨[.agg ⟨[i64 (n:Int),pt ab 0]⟩]⟩ ⟨[]⟩)),(5,(aC C 0 801 802)),(9,(.slice a m c)),(10,(i64 (m:Int))),(11,(i64 (i:Int)))]) M (.exit 0) T1 M/\ [5].map T1.get= [some (aC C 0 801 802)]:=by
 exact Rd.told (tb:=[]) (n:=60) (F:=[aO 2]) aG aF (aI prog) (fun _ _=>rfl) (by kernel_rfl) (hk (bF a0) hn)
theorem Zv{a:Option Addr}{c C n ab:Nat}{ad:eV}{vs:List Int}{M0 M:aB}(hM:aA M)(X:Ext M0 M)(hs:aH vs (.slice a vs.length c) M0)(a0:eT 118 ad (pt ab 0) M0)(a3:rE ad)(hl:vs.length<=60)(hC:M0.next<=C)(gC:M.get C=some ⟨List.replicate 801 (i64 0),3,1,0,true⟩):
  ∃M',bL prog [] (q87.loopAt 0) Tryz.f87.ntmps (fr [(1,(.func (.func 61) ⟨[.agg ⟨[i64 (n:Int),pt ab 0]⟩]⟩ ⟨[]⟩)),(5,aC C 0 801 802),(9,.slice a vs.length c),(10,i64 vs.length),(11,i64 ((0:Nat):Int))]) M (.exit 0) (fr [(5,aC C 0 801 802)]) M'/\Ext M0 M'/\aA M'/\M'.get C=some ⟨gZ (iD ad vs) vs.length 801,3,1,0,true⟩:=by
 obtain⟨_,M',h1,h2,h3,h4⟩:=bL.for (P:=prog) (GL:= []) (b:=q87.loopAt 0) (nt:=Tryz.f87.ntmps) (id:=0) (σ:=Unit) (n:=vs.length) (Inv:=fun i _ M1=>Ext M0 M1/\aA M1/\M1.get C=some ⟨gZ (iD ad vs) i 801,3,1,0,true⟩)
  (F:=fun i _=> [(1,(.func (.func 61) ⟨[.agg ⟨[i64 (n:Int),pt ab 0]⟩]⟩ ⟨[]⟩)),(5,aC C 0 801 802),(9,.slice a vs.length c),(10,i64 vs.length),(11,i64 ((i:Nat):Int))])
  (O:=fun _=> [(5,aC C 0 801 802)])
  (by
   rintro i _ M1 hi ⟨X1,a1,a2⟩
   obtain⟨bb,o,rfl,_⟩:=bU hs (by omega)
   have ht:vs[i]?=some vs[i]:=xAe hi
   have hk:dU ad vs[i]=iD ad vs i:=by unfold iD;rw[ht];rfl
   have hle:=tM a3 vs[i]
   have e0:0+(((dU ad vs[i]:Nat):Int):Int).toNat*1=iD ad vs i:=by rw[hk];simp
   obtain⟨T1,M2,h1,h2,h3,h4,h5,_⟩:=r31 C n ab bb o vs.length c i vs[i] ((iR (iD ad vs) i (iD ad vs i):Nat):Int) _ ad a1 X1 hC a2 a0 a3 (xAb (by omega)) (iX (P:=prog) (ty:=3) hs ht rfl bQ) (by omega) (by rw[e0];exact iS _ _ (by omega)) (by rw[e0,iT];omega)
   rw[bD (by omega)] at h2
   have hc:=Cq (iD ad vs) i (iD ad vs i)
   rw[e0,bD (by omega),uY _ (by omega)] at h5
   exact⟨(),T1,M2,h1,h2,h3,h4,h5⟩)
  (by
   rintro _ M1 ⟨X1,a1,a2⟩
   exact r31x C n ab a vs.length c vs.length (M:=M1) (xAa (by omega)))
  vs.length 0 (by omega) (s:=()) (M:=M) ⟨X,hM,by rw[uZ];exact gC⟩
 exact⟨M',h1,h2,h3,h4⟩
theorem rK87:Tryz.f87.results= #[.tmp 4]:=by kernel_rfl
theorem w31(n ab:Nat)(ad:eV)(av:Option Addr)(cv:Nat)(vs:List Int){M:aB}(hM:aA M)(a4:aH vs (.slice av vs.length cv) M)(a2:eT 118 ad (pt ab 0) M)(b2:rE ad)(a3:vs.length<=60): ∃v_ M',Ev prog [] 87 [.slice av vs.length cv,.func (.func 61) ⟨[.agg ⟨[i64 (n:Int),pt ab 0]⟩]⟩ ⟨[]⟩] M v_ M'/\Ext M M'/\aA M'/\iE vD (gW ad vs) M.next v_ M':=by
 obtain⟨b1,M2,a7,a8,g5,E6,b0⟩:=tS (P:=prog) (t:=22) (elem:=3) (z:=(i64 0)) (n:=801) hM (by kernel_rfl) (by kernel_rfl) (by decide)
 have a5:M.next<=b1:=by rw[<-a7];exact(Ext.refl M).next
 have X8:=(Ext.refl M).trans E6
 obtain⟨M9,a0,a6,a1,a9⟩:=Zv b0 X8 a4 a2 b2 a3 a5 g5
 exact⟨aC b1 0 801 802,M9,Ev.told_tmp (tb:=[0]) (n:=60) (F:=[bJ 3 (aC b1 0 801 802) M2,aQ 9,.blk 12 [1,5,9,10,11] .normal (fr [(5,(aC b1 0 801 802))]) M9]) aG aF Tryz.func87 aA1 (by kernel_rfl) rK87 (fun B=>wR (gL B) 0 a0) (fun _ h=>bZ h) (by kernel_rfl) (hq (.eq (bX prog 22 (i64 801) (i64 801) M) (1,.val (aC b1 0 801 802),M2)) (bN a8 xAc) (hk (lN a4.ln) (hq (.blk 0 (.loop (q87.loopAt 0)) Tryz.f87.ntmps [1,5,9,10,11] [some (.func (.func 61) ⟨[.agg ⟨[i64 (n:Int),pt ab 0]⟩]⟩ ⟨[]⟩),some (aC b1 0 801 802),some (.slice av vs.length cv),some (i64 (vs.length:Int)),some (i64 0)] M2 .normal (fr [(5,(aC b1 0 801 802))]) M9) (fB rfl) hn))),a6,a1,aJ.of_blk' (b:=b1) (w:=1) (g:=Oa) (jJ a5 a9) (by simp [gW]) (by simp [gW,gZ,xJ,List.map_map,Function.comp_def]) (fun _ _=>rfl) (by simp [gW])⟩
abbrev Q87:=FC (gN (lX aH (Dy 61 118)) fun x=>rE x.2.2/\x.1.length<=60) (iE vD) (fun x=>gW x.2.2 x.1)
theorem con87{x:List Int×Nat×eV}{lv:List Value}{M:aB}(hM:aA M)(h:(gN (lX aH (Dy 61 118)) fun x:List Int×Nat×eV=>rE x.2.2/\x.1.length<=60) x lv M): ∃v M',kR prog [] 87 Q87 lv M v M':=by
 refine FC.con h ?_
 obtain⟨⟨g0,g1,rfl,k0,k1⟩,a1,hl⟩:=h
 obtain⟨vs,n,ad⟩:=x
 obtain⟨av,cv,rfl⟩:=aJ.form k0
 obtain⟨s,rfl,p,rfl,a0⟩:=k1
 obtain⟨ab,o,i_,t,s,rfl,gab,hout,hinn,hto,hset⟩:=id a0
 obtain⟨v',M',h1,h2,_,h3⟩:=w31 n ab ad av cv vs hM k0 a0 a1 hl
 exact⟨v',M',h1,h2,h3⟩
theorem r30(D E bb o m c i k q z:Nat)(cd ce:List Value){M M0:aB}(hM:aA M)(X0:Ext M0 M)(hE:M0.next<=E)(gD:M.get D=some ⟨cd,3,1,0,true⟩)(gE:M.get E=some ⟨ce,22,1,0,true⟩)(a5:D≠E)(a0:(decide ((i:Int)<(m:Int)))=true)(a1:bA prog 3 ⟨bb,o+((i:Int):Int).toNat*1,none⟩ M0=some (i64 (z:Int)))(a3:q<=(q+z)/\(q+z)<=k)(a7:(IntKind.wrap .i64 ((q:Int)+(z:Int)))=(((q+z):Nat):Int))(a2:0+((i:Int):Int).toNat*1+1<=(ce).length): ∃T1 M',Rd prog [] (q86.loopAt 0) Tryz.f86.ntmps (fr [(0,(aC D 0 k (k+1))),(5,(aC E 0 m (m+1))),(6,(i64 (q:Int))),(12,(aC bb o m c)),(13,(i64 (m:Int))),(14,(i64 (i:Int)))]) M .normal T1 M'/\ [0,5,6,12,13,14].map T1.get= [some (aC D 0 k (k+1)),some (aC E 0 m (m+1)),some (i64 (IntKind.wrap .i64 ((q:Int)+(z:Int)))),some (aC bb o m c),some (i64 (m:Int)),some (i64 (IntKind.wrap .i64 ((i:Int)+(1:Int))))]/\Ext M0 M'/\aA M'/\M'.get D=some ⟨cd,3,1,0,true⟩/\M'.get E=some ⟨splice ce (0+((i:Int):Int).toNat*1) [aC D (0+q) 0 ((q+z)-q+1)],22,1,0,true⟩/\ ∀id k,M.get id=some k->id≠D->id≠E->M'.get id=some k:=by
 obtain⟨M1,q2,g3,a4,X5,a6,a9⟩:=aZ (o:=0+((i:Int):Int).toNat*1) (v:=(aC D (0+q) 0 ((q+z)-q+1))) (new:=splice ce (0+((i:Int):Int).toNat*1) [aC D (0+q) 0 ((q+z)-q+1)]) X0 hE hM Nv gE rfl rfl (Nat.zero_le _) a2 rfl
 have g8:=(a4 _ a5).trans gD
 have a8: ∀id k,M.get id=some k->id≠D->id≠E->M1.get id=some k:=fun id k g h_D h_E=>by
  have g:=((fun id h _=>a4 id h) id h_E (aB.lt_of_get g)).trans g
  exact g
 obtain⟨T1,h1,h2⟩:=Rd.told (tb:=[]) (n:=60) (F:=[aQ 2,aQ 6,aR 8 (i64 (z:Int)),aR 30 (aC D (0+q) 0 ((q+z)-q+1)),aQ 32,jE 34 M1]) aG aF (aI prog) (fun _ _=>rfl) (by kernel_rfl) (hk (bT a0) (hk (qI (i:Int) m (by omega) (by simp at a0;omega)) (hk (lD (aN X0 a1)) (hq (.q (.slice 22 (aC D 0 k (k+1)) (some (i64 (q:Int))) (some (i64 (q:Int))) (some (i64 (IntKind.wrap .i64 ((q:Int)+(z:Int))))) M) (1,.val (aC D (0+q) 0 ((q+z)-q+1)),Dt)) (⟨_,rfl,(by rw[a7];exact Ml (by kernel_rfl) (elem:=3) (by kernel_rfl) gD rfl a3.1 a3.2)⟩) (hk (qI (i:Int) m (by omega) (by simp at a0;omega)) (hq (qS 22 E (0+((i:Int):Int).toNat*1) (aC D (0+q) 0 ((q+z)-q+1)) M M1) (dB q2) hn))))))
 exact⟨T1,M1,h1,h2,X5,a6,g8,g3,a8⟩
theorem r30x(D E:Nat)(a:Option Addr)(m c i k q:Nat){M:aB}(a0:(decide ((i:Int)<(m:Int)))=false): ∃T1,Rd prog [] (q86.loopAt 0) Tryz.f86.ntmps (fr [(0,(aC D 0 k (k+1))),(5,(aC E 0 m (m+1))),(6,(i64 (q:Int))),(12,(.slice a m c)),(13,(i64 (m:Int))),(14,(i64 (i:Int)))]) M (.exit 0) T1 M/\ [5].map T1.get= [some (aC E 0 m (m+1))]:=by
 exact Rd.told (tb:=[]) (n:=60) (F:=[aO 2]) aG aF (aI prog) (fun _ _=>rfl) (by kernel_rfl) (hk (bF a0) hn)
theorem Zu{a:Option Addr}{c D E k:Nat}{sz:List Nat}{cd:List Value}{M0 M:aB}(hM:aA M)(X:Ext M0 M)(hs:vD sz (.slice a sz.length c) M0)(hl:sz.length<=801)(hk:dX (oS sz) sz.length<=k)(hk60:k<=60)(hE:M0.next<=E)(gD:M.get D=some ⟨cd,3,1,0,true⟩)(gE:M.get E=some ⟨List.replicate sz.length eW,22,1,0,true⟩)(a4:D≠E):
  ∃M',bL prog [] (q86.loopAt 0) Tryz.f86.ntmps (fr [(0,aC D 0 k (k+1)),(5,aC E 0 sz.length (sz.length+1)),(6,i64 ((0:Nat):Int)),(12,.slice a sz.length c),(13,i64 sz.length),(14,i64 ((0:Nat):Int))]) M (.exit 0) (fr [(5,aC E 0 sz.length (sz.length+1))]) M'/\Ext M0 M'/\aA M'/\M'.get E=some ⟨dQ D (oS sz) (fun _=>0) sz.length,22,1,0,true⟩:=by
 have a3:=fU D (oS sz) (fun _=>0) sz.length
 obtain⟨_,M',h1,h2,h3,_,h6⟩:=bL.for (P:=prog) (GL:= []) (b:=q86.loopAt 0) (nt:=Tryz.f86.ntmps) (id:=0) (σ:=Unit) (n:=sz.length) (Inv:=fun i _ M1=>Ext M0 M1/\aA M1/\M1.get D=some ⟨cd,3,1,0,true⟩/\M1.get E=some ⟨sL (dQ D (oS sz) (fun _=>0) sz.length) i eW,22,1,0,true⟩)
  (F:=fun i _=> [(0,aC D 0 k (k+1)),(5,aC E 0 sz.length (sz.length+1)),(6,i64 ((dX (oS sz) i:Nat):Int)),(12,.slice a sz.length c),(13,i64 sz.length),(14,i64 ((i:Nat):Int))])
  (O:=fun _=> [(5,aC E 0 sz.length (sz.length+1))])
  (by
   rintro i _ M1 hi ⟨X1,a0,a5,a6⟩
   have a1:aH (sz.map fun k=>((k:Nat):Int)) (.slice a sz.length c) M0:=hs
   obtain⟨bb,o,rfl,_⟩:=bU a1 (by simp;omega)
   have hnx:=oK (oS sz) hi
   have hz:(sz.map fun k=>((k:Nat):Int))[i]?=some ((oS sz i:Nat):Int):=by simp [oS,hi]
   have e0:0+((i:Int):Int).toNat*1=i:=by simp
   have ew:=Et (i:=dX (oS sz) i) (j:=oS sz i) (by omega)
   obtain⟨T1,M2,h1,h2,h3,h4,h6,h7,_⟩:=r30 D E bb o sz.length c i k (dX (oS sz) i) (oS sz i) _ _ a0 X1 hE a5 a6 a4 (xAb (by omega)) (iX (P:=prog) (ty:=3) a1 hz rfl bQ) ⟨by omega,by omega⟩ ew (by rw[e0,uG _ _ (by omega)];omega)
   rw[bD (by omega),ew] at h2
   have a2:=vX (z:=eW) (hZ D (oS sz) (fun _=>0) hi)
   simp only [Ah] at a2
   rw[e0,Nat.zero_add,Nat.add_sub_cancel_left,a2] at h7
   exact⟨(),T1,M2,h1,h2,h3,h4,h6,h7⟩)
  (by
   rintro _ M1 ⟨X1,a0,_⟩
   exact r30x D E a sz.length c sz.length k _ (M:=M1) (xAa (by omega)))
  sz.length 0 (by omega) (s:=()) (M:=M) ⟨X,hM,gD,by rw[vY,a3];exact gE⟩
 refine⟨M',h1,h2,h3,?_⟩
 have:=zD (dQ D (oS sz) (fun _=>0) sz.length) eW
 rw[a3] at this
 rw[this] at h6
 exact h6
theorem rK86:Tryz.f86.results= #[.tmp 4]:=by kernel_rfl
theorem w30(D k:Nat)(cd:List Value)(az:Option Addr)(cz:Nat)(sz:List Nat){M:aB}(hM:aA M)(gD:M.get D=some ⟨cd,3,1,0,true⟩)(a5:vD sz (.slice az sz.length cz) M)(b4:sz.length<=801)(b3:dX (oS sz) sz.length<=k)(a4:k<=60): ∃v_ M',Ev prog [] 86 [aC D 0 k (k+1),.slice az sz.length cz] M v_ M'/\Ext M M'/\aA M'/\Oo ((D,k),sz) M.next v_ M':=by
 obtain⟨b1,M2,a6,a9,g5,E6,b2⟩:=tS (P:=prog) (t:=30) (elem:=22) (z:=eW) (n:=sz.length) hM (by kernel_rfl) (by kernel_rfl) (by omega)
 have a7:M.next<=b1:=by rw[<-a6];exact(Ext.refl M).next
 have a1:=fJ gD a6
 have g8:=E6.old gD
 have X9:=(Ext.refl M).trans E6
 obtain⟨a0,a2,a8,a3,b0⟩:=Zu b2 X9 a5 b4 b3 a4 a7 g8 g5 a1
 exact⟨aC b1 0 sz.length (sz.length+1),a0,Ev.told_tmp (tb:=[0]) (n:=60) (F:=[aQ 5,bJ 7 (aC b1 0 sz.length (sz.length+1)) M2,aQ 15,.blk 18 [0,5,6,12,13,14] .normal (fr [(5,(aC b1 0 sz.length (sz.length+1)))]) a0]) aG aF Tryz.func86 aA0 (by kernel_rfl) rK86 (fun B=>wR (gL B) 0 a2) (fun _ h=>bZ h) (by kernel_rfl) (hq (.ln az sz.length cz) (lN (aJ.ln (l:=sz.map fun k=>((k:Nat):Int)) a5)) (hq (.eq (bX prog 30 (i64 (sz.length:Int)) (i64 (sz.length:Int)) M) (1,.val (aC b1 0 sz.length (sz.length+1)),M2)) (bN a9 xAc) (hq (.ln az sz.length cz) (lN (aJ.ln (l:=sz.map fun k=>((k:Nat):Int)) a5)) (hq (.blk 0 (.loop (q86.loopAt 0)) Tryz.f86.ntmps [0,5,6,12,13,14] [some (aC D 0 k (k+1)),some (aC b1 0 sz.length (sz.length+1)),some (i64 0),some (.slice az sz.length cz),some (i64 (sz.length:Int)),some (i64 0)] M2 .normal (fr [(5,(aC b1 0 sz.length (sz.length+1)))]) a0) (fB rfl) hn)))),a8,a3,⟨b1,rfl,a7,b0⟩⟩
abbrev Q86:=FC (gN (lX Ww vD) fun x=>x.2.length<=801/\dX (oS x.2) x.2.length<=x.1.2/\x.1.2<=60) Oo id
theorem Ye{x:(Nat×Nat)×List Nat}{lv:List Value}{M:aB}(hM:aA M)(h:(gN (lX Ww vD) fun x:(Nat×Nat)×List Nat=>x.2.length<=801/\dX (oS x.2) x.2.length<=x.1.2/\x.1.2<=60) x lv M): ∃v M',kR prog [] 86 Q86 lv M v M':=by
 refine FC.con h ?_
 obtain⟨⟨g0,g1,rfl,k0,k1⟩,h1,h2,h3⟩:=h
 obtain⟨⟨D,k⟩,sz⟩:=x
 obtain⟨rfl,cd,gD⟩:=k0
 obtain⟨az,cz,e⟩:=aJ.form (l:=sz.map fun k=>((k:Nat):Int)) k1
 rw[List.length_map] at e
 subst e
 obtain⟨v',M',q1,q2,_,q3⟩:=w30 D k cd az cz sz hM gD k1 h1 h2 h3
 exact⟨v',M',q1,q2,q3⟩
end Go.Proofs.YtdaglldahidmbaaGreat
