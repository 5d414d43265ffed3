/-
  Package hier: each of its laws for every argument; no conditions. The last text states which.
-/
import Derived.Test.YtdaglldahidmbaaGVP1
import Derived.Test.YtdaglldahidmbaaGAmBk
set_option linter.unusedVariables false
set_option linter.unusedSimpArgs false
open Go Go.Am Go.Proofs
namespace Go.Proofs.Ytdaglldahidmbaa
set_option maxRecDepth 100000
theorem dC22:(Try.prog.underlying 22).map isAggD=some false:=by kernel_rfl
theorem dS22:(Try.prog.info? 22).map (·.size)=some 1:=by kernel_rfl
theorem rA45(C n bb o m c i:Nat)(x z:Int)(cc:List Value){M M0:Mem}(hM:MemOk M)(X0:Ext M0 M)(hC:M0.next≤C)(gC:M.get C=some ⟨cc,3,1,0,true⟩)(cc0:(decide (((i:Int))<((m:Int))))=true)(hld0:aload Try.prog 3 ⟨bb,o+((i:Int):Int).toNat*1,none⟩ M0=some (i64 x))(hi1:0≤(x:Int)∧(x:Int)<n)(hc2:(cc)[0+(x:Int).toNat*1]?=some (i64 z))(hof3:0+(x:Int).toNat*1+1≤(cc).length): ∃T1 M',Rd Try.prog [] (q96.loopAt 0) Try.f96.ntmps (fr [(0,(i64 ((n:Int)))),(1,(sli bb o m c)),(5,(sli C 0 n (n+1))),(15,(sli bb o m c)),(16,(i64 ((m:Int)))),(17,(i64 ((i:Int))))]) M .normal T1 M'∧ [0,1,5,15,16,17].map T1.get= [some (i64 ((n:Int))),some (sli bb o m c),some (sli C 0 n (n+1)),some (sli bb o m c),some (i64 ((m:Int))),some (i64 (IntKind.wrap .i64 (((i:Int))+(1:Int))))]∧Ext M0 M'∧MemOk M'∧M'.get C=some ⟨splice cc (0+(x:Int).toNat*1) [i64 (IntKind.wrap .i64 (z+(1:Int)))],3,1,0,true⟩∧ ∀id k,M.get id=some k→id≠C→M'.get id=some k:=by
 obtain⟨M1,q2,g3,kp4,X5,hM6,nx7⟩:=store_t (o:=0+(x:Int).toNat*1) (v:=(i64 (IntKind.wrap .i64 (z+(1:Int))))) (new:=splice cc (0+(x:Int).toNat*1) [i64 (IntKind.wrap .i64 (z+(1:Int)))]) X0 hC hM dS3 gC rfl rfl (Nat.zero_le _) hof3 rfl
 replace g3:M1.get C=some ⟨splice cc (0+(x:Int).toNat*1) [i64 (IntKind.wrap .i64 (z+(1:Int)))],3,1,0,true⟩:=g3
 have hraw:oR Try.prog [] 60 Try.f96 (q96.loopAt 0) [(0,(i64 ((n:Int)))),(1,(sli bb o m c)),(5,(sli C 0 n (n+1))),(15,(sli bb o m c)),(16,(i64 ((m:Int)))),(17,(i64 ((i:Int))))] M [ttT 2,ttT 4,ttL 6 (i64 x),ttT 14,ttL 16 (i64 z),ttT 20,ttS 22 M1] [0,1,5,15,16,17]=some (.normal,[some (i64 ((n:Int))),some (sli bb o m c),some (sli C 0 n (n+1)),some (sli bb o m c),some (i64 ((m:Int))),some (i64 (IntKind.wrap .i64 (((i:Int))+(1:Int))))],M1,[qT (decide (((i:Int))<((m:Int)))),.q (.inb ((i:Int)) m) (ansB true),qL 3 bb (o+((i:Int):Int).toNat*1) M (i64 x),.q (.inb x n) (ansB true),qL 3 C (0+(x:Int).toNat*1) M (i64 z),.q (.inb x n) (ansB true),qS 3 C (0+(x:Int).toNat*1) (i64 (IntKind.wrap .i64 (z+(1:Int)))) M M1]):=by kernel_rfl
 have hkp: ∀id k,M.get id=some k→id≠C→M1.get id=some k:=fun id k g h_C=>by
  have g:=((fun id h _=>kp4 id h) id h_C (Mem.lt_of_get g)).trans g
  exact g
 obtain⟨T1,h1,h2⟩:=Rd.told noNumP mixedP (specs_none Try.prog) (fun _ _=>rfl) hraw (hk (bT cc0) (hk (q_inb (by omega) (by simp at cc0;omega)) (hk (q_ld (aload_ext X0 hld0)) (hk (q_inb hi1.1 hi1.2) (hk (q_ld (aload_cell (a:=⟨C,0+(x:Int).toNat*1,none⟩) dC3 gC hc2)) (hk (q_inb hi1.1 hi1.2) (hk (q_st q2) hn)))))))
 exact⟨T1,M1,h1,h2,X5,hM6,g3,hkp⟩
theorem rA45x(C n:Nat)(a:Option Addr)(m c i:Nat){M:Mem}(cc0:(decide (((i:Int))<((m:Int))))=false): ∃T1,Rd Try.prog [] (q96.loopAt 0) Try.f96.ntmps (fr [(0,(i64 ((n:Int)))),(1,(.slice a m c)),(5,(sli C 0 n (n+1))),(15,(.slice a m c)),(16,(i64 ((m:Int)))),(17,(i64 ((i:Int))))]) M (.exit 0) T1 M∧ [0,1,5].map T1.get= [some (i64 ((n:Int))),some (.slice a m c),some (sli C 0 n (n+1))]:=by
 have hraw:oR Try.prog [] 60 Try.f96 (q96.loopAt 0) [(0,(i64 ((n:Int)))),(1,(.slice a m c)),(5,(sli C 0 n (n+1))),(15,(.slice a m c)),(16,(i64 ((m:Int)))),(17,(i64 ((i:Int))))] M [ttF 2] [0,1,5]=some ((.exit 0),[some (i64 ((n:Int))),some (.slice a m c),some (sli C 0 n (n+1))],M,[qF (decide (((i:Int))<((m:Int))))]):=by kernel_rfl
 obtain⟨T1,h1,h2⟩:=Rd.told noNumP mixedP (specs_none Try.prog) (fun _ _=>rfl) hraw (hk (bF cc0) hn)
 exact⟨T1,h1,h2⟩
theorem rB45(C D E n k q z i:Nat)(cc cd ce:List Value){M M0:Mem}(hM:MemOk M)(X0:Ext M0 M)(hE:M0.next≤E)(gC:M.get C=some ⟨cc,3,1,0,true⟩)(gD:M.get D=some ⟨cd,3,1,0,true⟩)(gE:M.get E=some ⟨ce,22,1,0,true⟩)(dCE:C≠E)(dDE:D≠E)(cc0:(decide (((i:Int))<((n:Int))))=true)(hc0:(cc)[0+((i:Int):Int).toNat*1]?=some (i64 ((z:Int))))(hs1:q≤((q+z))∧((q+z))≤k)(he2:(IntKind.wrap .i64 (((q:Int))+((z:Int))))=((((q+z)):Nat):Int))(hof3:0+((i:Int):Int).toNat*1+1≤(ce).length): ∃T1 M',Rd Try.prog [] (q96.loopAt 2) Try.f96.ntmps (fr [(8,(sli D 0 k (k+1))),(9,(sli E 0 n (n+1))),(10,(i64 ((q:Int)))),(33,(sli C 0 n (n+1))),(34,(i64 ((n:Int)))),(35,(i64 ((i:Int))))]) M .normal T1 M'∧ [8,9,10,33,34,35].map T1.get= [some (sli D 0 k (k+1)),some (sli E 0 n (n+1)),some (i64 (IntKind.wrap .i64 (((q:Int))+((z:Int))))),some (sli C 0 n (n+1)),some (i64 ((n:Int))),some (i64 (IntKind.wrap .i64 (((i:Int))+(1:Int))))]∧Ext M0 M'∧MemOk M'∧M'.get C=some ⟨cc,3,1,0,true⟩∧M'.get D=some ⟨cd,3,1,0,true⟩∧M'.get E=some ⟨splice ce (0+((i:Int):Int).toNat*1) [sli D (0+q) 0 (((q+z))-q+1)],22,1,0,true⟩∧ ∀id k,M.get id=some k→id≠C→id≠D→id≠E→M'.get id=some k:=by
 obtain⟨M1,q2,g3,kp4,X5,hM6,nx7⟩:=store_t (o:=0+((i:Int):Int).toNat*1) (v:=(sli D (0+q) 0 (((q+z))-q+1))) (new:=splice ce (0+((i:Int):Int).toNat*1) [sli D (0+q) 0 (((q+z))-q+1)]) X0 hE hM dS22 gE rfl rfl (Nat.zero_le _) hof3 rfl
 replace g3:M1.get E=some ⟨splice ce (0+((i:Int):Int).toNat*1) [sli D (0+q) 0 (((q+z))-q+1)],22,1,0,true⟩:=g3
 have g8:=(kp4 _ dCE).trans gC
 have g9:=(kp4 _ dDE).trans gD
 have hraw:oR Try.prog [] 60 Try.f96 (q96.loopAt 2) [(8,(sli D 0 k (k+1))),(9,(sli E 0 n (n+1))),(10,(i64 ((q:Int)))),(33,(sli C 0 n (n+1))),(34,(i64 ((n:Int)))),(35,(i64 ((i:Int))))] M [ttT 2,ttT 6,ttL 8 (i64 ((z:Int))),ttL 30 (sli D (0+q) 0 (((q+z))-q+1)),ttT 32,ttS 34 M1] [8,9,10,33,34,35]=some (.normal,[some (sli D 0 k (k+1)),some (sli E 0 n (n+1)),some (i64 (IntKind.wrap .i64 (((q:Int))+((z:Int))))),some (sli C 0 n (n+1)),some (i64 ((n:Int))),some (i64 (IntKind.wrap .i64 (((i:Int))+(1:Int))))],M1,[qT (decide (((i:Int))<((n:Int)))),.q (.inb ((i:Int)) n) (ansB true),qL 3 C (0+((i:Int):Int).toNat*1) M (i64 ((z:Int))),.q (.slice 22 (sli D 0 k (k+1)) (some (i64 ((q:Int)))) (some (i64 ((q:Int)))) (some (i64 (IntKind.wrap .i64 (((q:Int))+((z:Int)))))) M) (1,.val (sli D (0+q) 0 (((q+z))-q+1)),noMem),.q (.inb ((i:Int)) n) (ansB true),qS 22 E (0+((i:Int):Int).toNat*1) (sli D (0+q) 0 (((q+z))-q+1)) M M1]):=by kernel_rfl
 have hkp: ∀id k,M.get id=some k→id≠C→id≠D→id≠E→M1.get id=some k:=fun id k g h_C h_D h_E=>by
  have g:=((fun id h _=>kp4 id h) id h_E (Mem.lt_of_get g)).trans g
  exact g
 obtain⟨T1,h1,h2⟩:=Rd.told noNumP mixedP (specs_none Try.prog) (fun _ _=>rfl) hraw (hk (bT cc0) (hk (q_inb (by omega) (by simp at cc0;omega)) (hk (q_ld (aload_cell (a:=⟨C,0+((i:Int):Int).toNat*1,none⟩) dC3 gC hc0)) (hk (⟨_,rfl,(by rw[he2];exact slice3_t (by kernel_rfl) (elem:=3) (by kernel_rfl) gD rfl hs1.1 hs1.2)⟩) (hk (q_inb (by omega) (by simp at cc0;omega)) (hk (q_st q2) hn))))))
 exact⟨T1,M1,h1,h2,X5,hM6,g8,g9,g3,hkp⟩
theorem rB45x(C D E n k q i:Nat){M:Mem}(cc0:(decide (((i:Int))<((n:Int))))=false): ∃T1,Rd Try.prog [] (q96.loopAt 2) Try.f96.ntmps (fr [(8,(sli D 0 k (k+1))),(9,(sli E 0 n (n+1))),(10,(i64 ((q:Int)))),(33,(sli C 0 n (n+1))),(34,(i64 ((n:Int)))),(35,(i64 ((i:Int))))]) M (.exit 2) T1 M∧ [9].map T1.get= [some (sli E 0 n (n+1))]:=by
 have hraw:oR Try.prog [] 60 Try.f96 (q96.loopAt 2) [(8,(sli D 0 k (k+1))),(9,(sli E 0 n (n+1))),(10,(i64 ((q:Int)))),(33,(sli C 0 n (n+1))),(34,(i64 ((n:Int)))),(35,(i64 ((i:Int))))] M [ttF 2] [9]=some ((.exit 2),[some (sli E 0 n (n+1))],M,[qF (decide (((i:Int))<((n:Int))))]):=by kernel_rfl
 obtain⟨T1,h1,h2⟩:=Rd.told noNumP mixedP (specs_none Try.prog) (fun _ _=>rfl) hraw (hk (bF cc0) hn)
 exact⟨T1,h1,h2⟩
theorem loopA45{a:Option Addr}{c C n:Nat}{ends:List Int}{M0 M:Mem}(hM:MemOk M)(X:Ext M0 M)(hs:pInts ends (.slice a ends.length c) M0)(hb: ∀x∈ends,0≤x∧x<(n:Int))(hl:ends.length≤400)(hC:M0.next≤C)(gC:M.get C=some ⟨List.replicate n (i64 0),3,1,0,true⟩):
  ∃M',LoopR Try.prog [] (q96.loopAt 0) Try.f96.ntmps (fr [(0,i64 n),(1,.slice a ends.length c),(5,sli C 0 n (n+1)),(15,.slice a ends.length c),(16,i64 ends.length),(17,i64 ((0:Nat):Int))]) M (.exit 0) (fr [(0,i64 n),(1,.slice a ends.length c),(5,sli C 0 n (n+1))]) M'∧Ext M0 M'∧MemOk M'∧M'.get C=some ⟨cntCells (keyE ends) ends.length n,3,1,0,true⟩:=by
 obtain⟨_,M',h1,h2,h3,h4⟩:=LoopR.for (P:=Try.prog) (GL:= []) (b:=q96.loopAt 0) (nt:=Try.f96.ntmps) (id:=0) (σ:=Unit) (n:=ends.length) (Inv:=fun i _ M1=>Ext M0 M1∧MemOk M1∧M1.get C=some ⟨cntCells (keyE ends) i n,3,1,0,true⟩)
  (F:=fun i _=> [(0,i64 n),(1,.slice a ends.length c),(5,sli C 0 n (n+1)),(15,.slice a ends.length c),(16,i64 ends.length),(17,i64 ((i:Nat):Int))])
  (O:=fun _=> [(0,i64 n),(1,.slice a ends.length c),(5,sli C 0 n (n+1))])
  (by
   rintro i _ M1 hi ⟨X1,hM1,hg1⟩
   obtain⟨bb,o,rfl,_⟩:=form_pos hs (by omega)
   have ht:ends[i]?=some ends[i]:=List.getElem?_eq_getElem hi
   have hk:=keyE_lt hb hi
   have hbi:=hb _ (List.getElem_mem hi)
   have e0:0+(ends[i]:Int).toNat*1=keyE ends i:=by rw[keyE_at hi];omega
   obtain⟨T1,M2,h1,h2,h3,h4,h5,_⟩:=rA45 C n bb o ends.length c i ends[i] ((cnt (keyE ends) i (keyE ends i):Nat):Int) _ hM1 X1 hC hg1 (decide_eq_true (by omega)) (ld_one (P:=Try.prog) (ty:=3) hs ht rfl dC3) hbi (by rw[e0];exact cntCells_get _ _ hk) (by rw[e0,cntCells_len];omega)
   rw[wrap_succ (by omega)] at h2
   have hc:=cnt_le (keyE ends) i (keyE ends i)
   rw[e0,wrap_succ (by omega),cntCells_step _ hk] at h5
   exact⟨(),T1,M2,h1,h2,h3,h4,h5⟩)
  (by
   rintro _ M1 ⟨X1,hM1,hg1⟩
   exact rA45x C n a ends.length c ends.length (M:=M1) (decide_eq_false (by omega)))
  ends.length 0 (by omega) (s:=()) (M:=M) ⟨X,hM,by rw[cntCells_zero];exact gC⟩
 exact⟨M',h1,h2,h3,h4⟩
theorem loopB45{C D E n:Nat}{ends:List Int}{M0 M:Mem}(hM:MemOk M)(X:Ext M0 M)(hb: ∀x∈ends,0≤x∧x<(n:Int))(hl:ends.length≤400)(hn:n≤60)(hE:M0.next≤E)(gC:M.get C=some ⟨cntCells (keyE ends) ends.length n,3,1,0,true⟩)(gD:M.get D=some ⟨List.replicate ends.length (i64 0),3,1,0,true⟩)(gE:M.get E=some ⟨List.replicate n sln,22,1,0,true⟩)(dCE:C≠E)(dDE:D≠E):
  ∃M',LoopR Try.prog [] (q96.loopAt 2) Try.f96.ntmps (fr [(8,sli D 0 ends.length (ends.length+1)),(9,sli E 0 n (n+1)),(10,i64 ((0:Nat):Int)),(33,sli C 0 n (n+1)),(34,i64 n),(35,i64 ((0:Nat):Int))]) M (.exit 2) (fr [(9,sli E 0 n (n+1))]) M'∧Ext M0 M'∧MemOk M'∧M'.get D=some ⟨List.replicate ends.length (i64 0),3,1,0,true⟩∧M'.get E=some ⟨rowCells D (cnt (keyE ends) ends.length) (fun _=>0) n,22,1,0,true⟩:=by
 have hall:=offS_cnt (keyE ends) n ends.length fun j hj=>keyE_lt hb hj
 have hxl:=rowCells_len D (cnt (keyE ends) ends.length) (fun _=>0) n
 obtain⟨_,M',h1,h2,h3,h4,h5,h6⟩:=LoopR.for (P:=Try.prog) (GL:= []) (b:=q96.loopAt 2) (nt:=Try.f96.ntmps) (id:=2) (σ:=Unit) (n:=n) (Inv:=fun i _ M1=>Ext M0 M1∧MemOk M1∧M1.get C=some ⟨cntCells (keyE ends) ends.length n,3,1,0,true⟩∧M1.get D=some ⟨List.replicate ends.length (i64 0),3,1,0,true⟩∧M1.get E=some ⟨fillS (rowCells D (cnt (keyE ends) ends.length) (fun _=>0) n) i sln,22,1,0,true⟩)
  (F:=fun i _=> [(8,sli D 0 ends.length (ends.length+1)),(9,sli E 0 n (n+1)),(10,i64 ((offS (cnt (keyE ends) ends.length) i:Nat):Int)),(33,sli C 0 n (n+1)),(34,i64 n),(35,i64 ((i:Nat):Int))])
  (O:=fun _=> [(9,sli E 0 n (n+1))])
  (by
   rintro i _ M1 hi ⟨X1,hM1,hg1,hg2,hg3⟩
   have hnx:=offS_next (cnt (keyE ends) ends.length) hi
   have e0:0+((i:Int):Int).toNat*1=i:=by simp
   have ew:=wrap_add (i:=offS (cnt (keyE ends) ends.length) i) (j:=cnt (keyE ends) ends.length i) (by omega)
   obtain⟨T1,M2,h1,h2,h3,h4,h5,h6,h7,_⟩:=rB45 C D E n ends.length (offS (cnt (keyE ends) ends.length) i) (cnt (keyE ends) ends.length i) i _ _ _ hM1 X1 hE hg1 hg2 hg3 dCE dDE (decide_eq_true (by omega)) (by rw[e0];exact cntCells_get _ _ hi) ⟨by omega,by omega⟩ ew (by rw[e0,fillS_len _ _ (by omega)];omega)
   rw[wrap_succ (by omega),ew] at h2
   have hst:=fillS_step (z:=sln) (rowCells_get D (cnt (keyE ends) ends.length) (fun _=>0) hi)
   simp only [cellR] at hst
   rw[e0,Nat.zero_add,Nat.add_sub_cancel_left,hst] at h7
   exact⟨(),T1,M2,h1,h2,h3,h4,h5,h6,h7⟩)
  (by
   rintro _ M1 ⟨X1,hM1,_⟩
   exact rB45x C D E n ends.length _ n (M:=M1) (decide_eq_false (by omega)))
  n 0 (by omega) (s:=()) (M:=M) ⟨X,hM,gC,gD,by rw[fillS_zero,hxl];exact gE⟩
 refine⟨M',h1,h2,h3,h5,?_⟩
 have:=fillS_all (rowCells D (cnt (keyE ends) ends.length) (fun _=>0) n) sln
 rw[hxl] at this
 rw[this] at h6
 exact h6
theorem rK96:Try.f96.results= #[.tmp 4]:=by kernel_rfl
theorem w45(n:Nat)(aends:Option Addr)(cends:Nat)(ends:List Int){M:Mem}(hM:MemOk M)(hends:pInts ends (.slice aends ends.length cends) M)(hcond:ends.length≤400∧n≤60∧ ∀x∈ends,0≤x∧x<(n:Int)): ∃v M',Ev Try.prog [] 96 [i64 n,.slice aends ends.length cends] M v M'∧Ext M M'∧MemOk M'∧pRoom (n,ends) M.next v M':=by
 obtain⟨b1,M2,eb3,em4,g5,E6,hM7⟩:=mks_t (P:=Try.prog) (t:=22) (elem:=3) (z:=(i64 0)) (n:=n) hM (by kernel_rfl) (by kernel_rfl) (by have:=hcond.1;have:=hcond.2.1;omega)
 have nb1:M.next≤b1:=by rw[←eb3];exact(Ext.refl M).next
 have X8:=(Ext.refl M).trans E6
 obtain⟨M9,hL10,X11,hM12,g13⟩:=loopA45 hM7 X8 hends hcond.2.2 hcond.1 nb1 g5
 obtain⟨b15,M16,eb17,em18,g19,E20,hM21⟩:=mks_t (P:=Try.prog) (t:=22) (elem:=3) (z:=(i64 0)) (n:=ends.length) hM12 (by kernel_rfl) (by kernel_rfl) (by have:=hcond.1;have:=hcond.2.1;omega)
 have nb15:M.next≤b15:=by rw[←eb17];exact X11.next
 have g22:=E20.old g13
 have X23:=X11.trans E20
 obtain⟨b24,M25,eb26,em27,g28,E29,hM30⟩:=mks_t (P:=Try.prog) (t:=29) (elem:=22) (z:=sln) (n:=n) hM21 (by kernel_rfl) (by kernel_rfl) (by have:=hcond.1;have:=hcond.2.1;omega)
 have nb24:M.next≤b24:=by rw[←eb26];exact X23.next
 have db1b24:b1≠b24:=by have:=Mem.lt_of_get g22;omega
 have db15b24:b15≠b24:=by have:=Mem.lt_of_get g19;omega
 have g31:=E29.old g22
 have g32:=E29.old g19
 have X33:=X23.trans E29
 obtain⟨M34,hL35,X36,hM37,g38,g39⟩:=loopB45 hM30 X33 hcond.2.2 hcond.1 hcond.2.1 nb24 g31 g32 g28 db1b24 db15b24
 have hraw:oT Try.prog [0,2] 60 Try.f96 q96 [i64 n,.slice aends ends.length cends] M [ttV 5 (sli b1 0 n (n+1)) M2,ttT 11,.blk 14 [0,1,5,15,16,17] .normal (fr [(0,(i64 ((n:Int)))),(1,(.slice aends ends.length cends)),(5,(sli b1 0 n (n+1)))]) M9,ttT 18,ttV 20 (sli b15 0 ends.length (ends.length+1)) M16,ttV 26 (sli b24 0 n (n+1)) M25,.blk 37 [8,9,10,33,34,35] .normal (fr [(9,(sli b24 0 n (n+1)))]) M34] 4=some (.ret,some (sli b24 0 n (n+1)),M34,[.eq (amakeSlice Try.prog 22 (i64 ((n:Int))) (i64 ((n:Int))) M) (1,.val (sli b1 0 n (n+1)),M2),.ln aends ends.length cends,.blk 0 (.loop (q96.loopAt 0)) Try.f96.ntmps [0,1,5,15,16,17] [some (i64 ((n:Int))),some (.slice aends ends.length cends),some (sli b1 0 n (n+1)),some (.slice aends ends.length cends),some (i64 ((ends.length:Int))),some (i64 0)] M2 .normal (fr [(0,(i64 ((n:Int)))),(1,(.slice aends ends.length cends)),(5,(sli b1 0 n (n+1)))]) M9,.ln aends ends.length cends,.eq (amakeSlice Try.prog 22 (i64 ((ends.length:Int))) (i64 ((ends.length:Int))) M9) (1,.val (sli b15 0 ends.length (ends.length+1)),M16),.eq (amakeSlice Try.prog 29 (i64 ((n:Int))) (i64 ((n:Int))) M16) (1,.val (sli b24 0 n (n+1)),M25),.blk 2 (.loop (q96.loopAt 2)) Try.f96.ntmps [8,9,10,33,34,35] [some (sli b15 0 ends.length (ends.length+1)),some (sli b24 0 n (n+1)),some (i64 0),some (sli b1 0 n (n+1)),some (i64 ((n:Int))),some (i64 0)] M25 .normal (fr [(9,(sli b24 0 n (n+1)))]) M34]):=by kernel_rfl
 exact⟨sli b24 0 n (n+1),M34,Ev.told_tmp noNumP mixedP Try.func96 q96_ok (by kernel_rfl) rK96 (fun B=>sb2 (sbN B) 0 hL10 2 hL35) (fun _ h=>blksF_two h) hraw (hk (q_eq em4 Nat.one_ne_zero) (hk (lN hends.ln) (hk (q_blk rfl) (hk (lN hends.ln) (hk (q_eq em18 Nat.one_ne_zero) (hk (q_eq em27 Nat.one_ne_zero) (hk (q_blk rfl) hn))))))),X36,hM37,⟨b24,b15,rfl,nb24,nb15,db15b24,g39,g38⟩⟩
abbrev Q96:=FC (asP (as2 pN pInts) fun x:Nat×List Int=>x.2.length≤400∧x.1≤60∧ ∀z∈x.2,0≤z∧z<(x.1:Int)) pRoom id
theorem con96{x:Nat×List Int}{lv:List Value}{M:Mem}(hM:MemOk M)(h:(asP (as2 pN pInts) fun x:Nat×List Int=>x.2.length≤400∧x.1≤60∧ ∀z∈x.2,0≤z∧z<(x.1:Int)) x lv M): ∃v M',Con Try.prog [] 96 Q96 lv M v M':=by
 refine FC.con h ?_
 obtain⟨⟨g0,g1,rfl,rfl,k1⟩,hcond⟩:=h
 obtain⟨n,ends⟩:=x
 obtain⟨a,c,rfl⟩:=GRowsAt.form k1
 obtain⟨v,M',h1,h2,_,h3⟩:=w45 n a c ends hM k1 hcond
 exact⟨v,M',h1,h2,h3⟩
theorem r36(D E n bb o m c i p q w:Nat)(x:Int)(cd ce:List Value){M M0:Mem}(hM:MemOk M)(X0:Ext M0 M)(hD:M0.next≤D)(hE:M0.next≤E)(gD:M.get D=some ⟨cd,3,1,0,true⟩)(gE:M.get E=some ⟨ce,22,1,0,true⟩)(dDE:D≠E)(cc0:(decide (((i:Int))<((m:Int))))=true)(hld0:aload Try.prog 3 ⟨bb,o+((i:Int):Int).toNat*1,none⟩ M0=some (i64 x))(hi1:0≤(x:Int)∧(x:Int)<n)(hc2:(ce)[0+(x:Int).toNat*1]?=some (sli D p q w))(hr3:q+1<w∧p+(q+1)*1≤(cd).length∧q<1073741824)(hof4:0+(x:Int).toNat*1+1≤(ce).length): ∃T1 M',Rd Try.prog [] (q87.loopAt 0) Try.f87.ntmps (fr [(5,(sli E 0 n (n+1))),(11,(sli bb o m c)),(12,(i64 ((m:Int)))),(13,(i64 ((i:Int))))]) M .normal T1 M'∧ [5,11,12,13].map T1.get= [some (sli E 0 n (n+1)),some (sli bb o m c),some (i64 ((m:Int))),some (i64 (IntKind.wrap .i64 (((i:Int))+(1:Int))))]∧Ext M0 M'∧MemOk M'∧M'.get D=some ⟨splice cd (p+q*1) [i64 ((i:Int))],3,1,0,true⟩∧M'.get E=some ⟨splice ce (0+(x:Int).toNat*1) [sli D p (q+1) w],22,1,0,true⟩∧ ∀id k,M.get id=some k→id≠D→id≠E→M'.get id=some k:=by
 obtain⟨b1,M2,eb3,em4,g5,E6,hM7⟩:=new_t hM ⟨[i64 ((i:Int))],3,1,0,true⟩
 have g8:=E6.old gD
 have g9:=E6.old gE
 have X11:=X0.trans E6
 obtain⟨M12,q13,g14,kp15,X16,hM17,nx18⟩:=append_in_t (P:=Try.prog) (sT:=22) (xT:=22) (elem:=3) (w:=1) (y:=8) (cx:=2) X11 hD hM7 (by kernel_rfl) (by kernel_rfl) (by kernel_rfl) (by decide) (by decide) hr3.2.2 g5 (ox:=0) (new:= [i64 ((i:Int))]) rfl rfl rfl g8 (takeN_some (n:=q*1) (k:=p) (l:=cd) (by have:=hr3.2.1;omega)) rfl rfl (Nat.zero_le _) hr3.1 hr3.2.1
 replace g14:M12.get D=some ⟨splice cd (p+q*1) [i64 ((i:Int))],3,1,0,true⟩:=g14
 have g19:=(kp15 _ (Ne.symm dDE)).trans g9
 obtain⟨M21,q22,g23,kp24,X25,hM26,nx27⟩:=store_t (o:=0+(x:Int).toNat*1) (v:=(sli D p (q+1) w)) (new:=splice ce (0+(x:Int).toNat*1) [sli D p (q+1) w]) X16 hE hM17 dS22 g19 rfl rfl (Nat.zero_le _) hof4 rfl
 replace g23:M21.get E=some ⟨splice ce (0+(x:Int).toNat*1) [sli D p (q+1) w],22,1,0,true⟩:=g23
 have g28:=(kp24 _ dDE).trans g14
 have hraw:oR Try.prog [] 60 Try.f87 (q87.loopAt 0) [(5,(sli E 0 n (n+1))),(11,(sli bb o m c)),(12,(i64 ((m:Int)))),(13,(i64 ((i:Int))))] M [ttT 2,ttT 6,ttL 8 (i64 x),ttT 22,ttL 24 (sli D p q w),ttV 28 (sli b1 0 1 2) M2,.at 30 (2,.val (sli D p (q+1) w),M12),ttT 32,ttS 34 M21] [5,11,12,13]=some (.normal,[some (sli E 0 n (n+1)),some (sli bb o m c),some (i64 ((m:Int))),some (i64 (IntKind.wrap .i64 (((i:Int))+(1:Int))))],M21,[qT (decide (((i:Int))<((m:Int)))),.q (.inb ((i:Int)) m) (ansB true),qL 3 bb (o+((i:Int):Int).toNat*1) M (i64 x),.q (.inb x n) (ansB true),qL 22 E (0+(x:Int).toNat*1) M (sli D p q w),.eq (abuildSlice Try.prog 22 1 [(0,(i64 ((i:Int))))] M) (1,.val (sli b1 0 1 2),M2),.q (.append [22,22] (sli D p q w) (sli b1 0 1 2) M2) (2,.val (sli D p (q+1) w),M12),.q (.inb x n) (ansB true),qS 22 E (0+(x:Int).toNat*1) (sli D p (q+1) w) M12 M21]):=by kernel_rfl
 have hkp: ∀id k,M.get id=some k→id≠D→id≠E→M21.get id=some k:=fun id k g h_D h_E=>by
  have g:=E6.old g
  have g:=((fun id h _=>kp15 id h) id h_D (Mem.lt_of_get g)).trans g
  have g:=((fun id h _=>kp24 id h) id h_E (Mem.lt_of_get g)).trans g
  exact g
 obtain⟨T1,h1,h2⟩:=Rd.told noNumP mixedP (specs_none Try.prog) (fun _ _=>rfl) hraw (hk (bT cc0) (hk (q_inb (by omega) (by simp at cc0;omega)) (hk (q_ld (aload_ext X0 hld0)) (hk (q_inb hi1.1 hi1.2) (hk (q_ld (aload_cell (a:=⟨E,0+(x:Int).toNat*1,none⟩) dC22 gE hc2)) (hk (q_eq (by rw[←eb3,←em4];kernel_rfl) Nat.one_ne_zero) (hk (q_app q13 (Nat.succ_ne_zero _)) (hk (q_inb hi1.1 hi1.2) (hk (q_st q22) hn)))))))))
 exact⟨T1,M21,h1,h2,X25,hM26,g28,g23,hkp⟩
theorem r36x(E n:Nat)(a:Option Addr)(m c i:Nat){M:Mem}(cc0:(decide (((i:Int))<((m:Int))))=false): ∃T1,Rd Try.prog [] (q87.loopAt 0) Try.f87.ntmps (fr [(5,(sli E 0 n (n+1))),(11,(.slice a m c)),(12,(i64 ((m:Int)))),(13,(i64 ((i:Int))))]) M (.exit 0) T1 M∧ [5].map T1.get= [some (sli E 0 n (n+1))]:=by
 have hraw:oR Try.prog [] 60 Try.f87 (q87.loopAt 0) [(5,(sli E 0 n (n+1))),(11,(.slice a m c)),(12,(i64 ((m:Int)))),(13,(i64 ((i:Int))))] M [ttF 2] [5]=some ((.exit 0),[some (sli E 0 n (n+1))],M,[qF (decide (((i:Int))<((m:Int))))]):=by kernel_rfl
 obtain⟨T1,h1,h2⟩:=Rd.told noNumP mixedP (specs_none Try.prog) (fun _ _=>rfl) hraw (hk (bF cc0) hn)
 exact⟨T1,h1,h2⟩
theorem loop36{a:Option Addr}{c D E n:Nat}{ends:List Int}{M0 M:Mem}(hM:MemOk M)(X:Ext M0 M)(hs:pInts ends (.slice a ends.length c) M0)(hb: ∀x∈ends,0≤x∧x<(n:Int))(hl:ends.length≤400)(hD:M0.next≤D)(hE:M0.next≤E)(dDE:D≠E)(gE:M.get E=some ⟨rowCells D (cnt (keyE ends) ends.length) (fun _=>0) n,22,1,0,true⟩)(gD:M.get D=some ⟨List.replicate ends.length (i64 0),3,1,0,true⟩):
  ∃M',LoopR Try.prog [] (q87.loopAt 0) Try.f87.ntmps (fr [(5,sli E 0 n (n+1)),(11,.slice a ends.length c),(12,i64 ends.length),(13,i64 ((0:Nat):Int))]) M (.exit 0) (fr [(5,sli E 0 n (n+1))]) M'∧Ext M0 M'∧MemOk M'∧M'.get E=some ⟨rowCells D (cnt (keyE ends) ends.length) (cnt (keyE ends) ends.length) n,22,1,0,true⟩∧ ∃mem,M'.get D=some ⟨mem,3,1,0,true⟩∧Bk (cnt (keyE ends) ends.length) n (keyE ends) (fun j=>i64 ((j:Nat):Int)) ends.length mem:=by
 have hall:=offS_cnt (keyE ends) n ends.length fun j hj=>keyE_lt hb hj
 obtain⟨_,M',h1,h2,h3,h4,h5⟩:=LoopR.for (P:=Try.prog) (GL:= []) (b:=q87.loopAt 0) (nt:=Try.f87.ntmps) (id:=0) (σ:=Unit) (n:=ends.length) (Inv:=fun i _ M1=>Ext M0 M1∧MemOk M1∧M1.get E=some ⟨rowCells D (cnt (keyE ends) ends.length) (cnt (keyE ends) i) n,22,1,0,true⟩∧ ∃mem,M1.get D=some ⟨mem,3,1,0,true⟩∧Bk (cnt (keyE ends) ends.length) n (keyE ends) (fun j=>i64 ((j:Nat):Int)) i mem)
  (F:=fun i _=> [(5,sli E 0 n (n+1)),(11,.slice a ends.length c),(12,i64 ends.length),(13,i64 ((i:Nat):Int))])
  (O:=fun _=> [(5,sli E 0 n (n+1))])
  (by
   rintro i _ M1 hi ⟨X1,hM1,hg1,mem,hg2,hB⟩
   obtain⟨bb,o,rfl,_⟩:=form_pos hs (by omega)
   have ht:ends[i]?=some ends[i]:=List.getElem?_eq_getElem hi
   have hk:=keyE_lt hb hi
   have hbi:=hb _ (List.getElem_mem hi)
   have hlt:=cnt_lt (keyE ends) hi
   have hroom:=hB.room hk hlt
   have hc:=cnt_le (keyE ends) i (keyE ends i)
   have e0:0+(ends[i]:Int).toNat*1=keyE ends i:=by rw[keyE_at hi];omega
   obtain⟨T1,M2,h1,h2,h3,h4,h5,h6,_⟩:=r36 D E n bb o ends.length c i (offS (cnt (keyE ends) ends.length) (keyE ends i)) (cnt (keyE ends) i (keyE ends i)) (cnt (keyE ends) ends.length (keyE ends i)+1) ends[i] _ _ hM1 X1 hD hE hg2 hg1 dDE (decide_eq_true (by omega)) (ld_one (P:=Try.prog) (ty:=3) hs ht rfl dC3) hbi (by rw[e0];exact rowCells_get _ _ _ hk) ⟨by omega,by omega,by omega⟩ (by rw[e0,rowCells_len];omega)
   rw[wrap_succ (by omega)] at h2
   rw[e0,rowCells_step D _ (keyE ends) i n hk] at h6
   have hst:=hB.step hk hlt
   rw[show offS (cnt (keyE ends) ends.length) (keyE ends i)+cnt (keyE ends) i (keyE ends i)=offS (cnt (keyE ends) ends.length) (keyE ends i)+cnt (keyE ends) i (keyE ends i)*1 by omega] at hst
   exact⟨(),T1,M2,h1,h2,h3,h4,h6,_,h5,hst⟩)
  (by
   rintro _ M1 ⟨X1,hM1,_⟩
   exact r36x E n a ends.length c ends.length (M:=M1) (decide_eq_false (by omega)))
  ends.length 0 (by omega) (s:=()) (M:=M) ⟨X,hM,gE,_,gD,Bk.zero (by rw[hall];simp)⟩
 exact⟨M',h1,h2,h3,h4,h5⟩
theorem rK87:Try.f87.results= #[.tmp 4]:=by kernel_rfl
theorem w36(n:Nat)(aends:Option Addr)(cends:Nat)(ends:List Int){M:Mem}(hM:MemOk M)(hends:pInts ends (.slice aends ends.length cends) M)(hcond:ends.length≤400∧n≤60∧ ∀x∈ends,0≤x∧x<(n:Int)): ∃v M',Ev Try.prog [] 87 [i64 n,.slice aends ends.length cends] M v M'∧Ext M M'∧MemOk M'∧newR pRowss (rowsOf n ends) M.next v M':=by
 obtain⟨w3,N4,M5,p6,l7,e8,E9,hM10,F11⟩:=call_fc (x:=(n,ends)) hM con96 (⟨⟨_,_,rfl,rfl,AP.Ext (R:=pInts) hends (Ext.refl M)⟩,hcond⟩)
 obtain⟨b1,b2,ew3,nb1,nb2,db2b1,gb1,gb2⟩:=F11
 subst ew3
 have nb1:=Nat.le_trans ((Ext.refl M)).next nb1
 have nb2:=Nat.le_trans ((Ext.refl M)).next nb2
 have X13:=(Ext.refl M).trans E9
 obtain⟨M17,hL18,X19,hM20,g21,me14,gD15,hB16⟩:=loop36 hM10 X13 hends hcond.2.2 hcond.1 nb2 nb1 db2b1 gb1 gb2
 have hraw:oT Try.prog [0] 60 Try.f87 q87 [i64 n,.slice aends ends.length cends] M [ttV 7 (sli b1 0 n (n+1)) M5,ttT 13,.blk 16 [5,11,12,13] .normal (fr [(5,(sli b1 0 n (n+1)))]) M17] 4=some (.ret,some (sli b1 0 n (n+1)),M17,[qC 96 [i64 ((n:Int)),.slice aends ends.length cends] M (sli b1 0 n (n+1)) M5,.ln aends ends.length cends,.blk 0 (.loop (q87.loopAt 0)) Try.f87.ntmps [5,11,12,13] [some (sli b1 0 n (n+1)),some (.slice aends ends.length cends),some (i64 ((ends.length:Int))),some (i64 0)] M5 .normal (fr [(5,(sli b1 0 n (n+1)))]) M17]):=by kernel_rfl
 exact⟨sli b1 0 n (n+1),M17,Ev.told_tmp noNumP mixedP Try.func87 q87_ok (by kernel_rfl) rK87 (fun B=>sb1 (sbQ 96 Q96 (sbN _)) 0 hL18) (fun _ h=>blksF_one h) hraw (hk (q_call rfl p6 l7 e8) (hk (lN hends.ln) (hk (q_blk rfl) hn))),X19,hM20,rowss_of (hid_of nb1 g21) (hid_of nb2 gD15) hB16 (by have:=hcond.1;omega) _⟩
abbrev Q87:=FC (asP (as2 pN pInts) fun x:Nat×List Int=>x.2.length≤400∧x.1≤60∧ ∀z∈x.2,0≤z∧z<(x.1:Int)) (newR pRowss) (fun x=>rowsOf x.1 x.2)
theorem con87{x:Nat×List Int}{lv:List Value}{M:Mem}(hM:MemOk M)(h:(asP (as2 pN pInts) fun x:Nat×List Int=>x.2.length≤400∧x.1≤60∧ ∀z∈x.2,0≤z∧z<(x.1:Int)) x lv M): ∃v M',Con Try.prog [] 87 Q87 lv M v M':=by
 refine FC.con h ?_
 obtain⟨⟨g0,g1,rfl,rfl,k1⟩,hcond⟩:=h
 obtain⟨n,ends⟩:=x
 obtain⟨a,c,rfl⟩:=GRowsAt.form k1
 obtain⟨v,M',h1,h2,_,h3⟩:=w36 n a c ends hM k1 hcond
 exact⟨v,M',h1,h2,h3⟩
theorem dA26:(Try.prog.underlying 26).map isAggD=some true:=by kernel_rfl
theorem dS26:(Try.prog.info? 26).map (·.size)=some 2:=by kernel_rfl
theorem rK73:Try.f73.results= #[.tmp 2]:=by kernel_rfl
theorem w26(n:Nat)(al:Option Addr)(cl:Nat)(l:List E4){M:Mem}(hM:MemOk M)(hl:pEdges l (.slice al l.length cl) M)(hck:chkN (n:Int) l=true)(hcd:1≤(n:Int)∧(n:Int)≤60∧l.length≤400∧ ∀e∈l,0≤e.f∧e.f<(n:Int)∧0≤e.t∧e.t<(n:Int)∧okM e): ∃v M',Ev Try.prog [] 73 [.agg ⟨[i64 ((n:Int)),.slice al l.length cl]⟩] M v M'∧Ext M M'∧MemOk M'∧newR (pAdj 108) (adjM n l) M.next v M':=by
 obtain⟨b1,M2,eb3,em4,g5,E6,hM7⟩:=new_t hM ⟨[i64 ((n:Int)),.slice al l.length cl],26,2,0,true⟩
 have X9:=(Ext.refl M).trans E6
 obtain⟨w10,N11,M12,p13,l14,e15,E16,hM17,F18⟩:=call_fc (x:=((n:Int),l)) hM7 con20 (⟨_,rfl,_,rfl,AP.Ext (R:=pEdges) hl X9⟩)
 have g20:=E16.old g5
 have ew10:w10=(.bool (chkN (n:Int) l)):=F18
 subst ew10
 have X21:=X9.trans E16
 have ltb1M26:=Mem.lt_of_get g20
 obtain⟨w24,N25,M26,p27,l28,e29,E30,hM31,F32⟩:=call_fc (x:=(l,Tell.to)) hM17 con85 (⟨⟨_,_,rfl,AP.Ext (R:=pEdges) hl X21,rfl⟩,hcd.2.2.1,fun e he=>(hcd.2.2.2 e he).2.2.2.2⟩)
 have g34:=E30.old g20
 have G35:pInts (l.map (tellE .to)) w24 (hidx [(0,M12.next)] M26):=hx_of F32
 obtain⟨a22,c23,ew24⟩:=GRowsAt.form G35
 rw[List.length_map] at ew24
 subst ew24
 have X36:=X21.trans E30
 obtain⟨R37,eR38⟩: ∃m:Mem,m=Mem.mk M26.blks M26.next M26.hide []:=⟨_,rfl⟩
 have X39:Ext (Mem.mk M.blks M.next M.hide []) R37:=by rw[eR38];exact Ext.aside (X36)
 have lg40:R37.log= []:=by rw[eR38]
 have nxR37:R37.next=M26.next:=by rw[eR38]
 have hM41:MemOk R37:=by rw[eR38];exact MemOk.log hM31
 have ltb1M26:b1<M26.next:=by have h:=Mem.lt_of_get g34;exact h
 have g42:R37.get b1=some ⟨[i64 ((n:Int)),.slice al l.length cl],26,2,0,true⟩:=by rw[eR38];exact g34
 have F43:=hx_still (R:=pInts) (M':=R37) G35 (fun id b h=>by rw[eR38];exact h)
 obtain⟨w46,N47,M48,p49,l50,e51,E52,hM53,F54⟩:=call_fc (x:=(l,Tell.fr)) hM41 con85 (⟨⟨_,_,rfl,AP.Ext (R:=pEdges) (AP.log (R:=pEdges) hl) X39,rfl⟩,hcd.2.2.1,fun e he=>(hcd.2.2.2 e he).2.2.2.2⟩)
 have F56:=hx_ext (R:=pInts) F43 E52
 have g57:=E52.old g42
 have G58:pInts (l.map (tellE .fr)) w46 (hidx [(0,R37.next)] M48):=hx_of F54
 obtain⟨a44,c45,ew46⟩:=GRowsAt.form G58
 rw[List.length_map] at ew46
 subst ew46
 have lg59:M48.log= []:=by rw[←e51];exact lg40
 have X60:=X39.trans E52
 have ltb1M65:=Mem.lt_of_get g57
 obtain⟨w63,N64,M65,p66,l67,e68,E69,hM70,F71⟩:=call_fc (x:=(n,l.map (tellE .fr))) hM53 con87 (⟨⟨_,_,rfl,rfl,hx_out (R:=pInts) G58⟩,by simpa using hcd.2.2.1,by have:=hcd.2.1;omega,tell_range hck (by simp)⟩)
 have F73:=hx_ext (R:=pInts) F56 E69
 have g75:=E69.old g57
 have G76:pRowss (rowsOf n (l.map (tellE .fr))) w63 (hidx [(0,M48.next)] M65):=hx_of F71
 obtain⟨E61,c62,bl77,ew63,_⟩:=id G76
 rw[rowsOf_len] at ew63
 subst ew63
 have lg78:M65.log= []:=by rw[←e68];exact lg59
 have X79:=X60.trans E69
 have ltb1M84:=Mem.lt_of_get g75
 obtain⟨w82,N83,M84,p85,l86,e87,E88,hM89,F90⟩:=call_fc (x:=(n,l.map (tellE .to))) hM70 con87 (⟨⟨_,_,rfl,rfl,hx_out (R:=pInts) F73⟩,by simpa using hcd.2.2.1,by have:=hcd.2.1;omega,tell_range hck (by simp)⟩)
 have F92:=hx_ext (R:=pInts) F73 E88
 have F94:=hx_ext (R:=pRowss) G76 E88
 have g95:=E88.old g75
 have G96:pRowss (rowsOf n (l.map (tellE .to))) w82 (hidx [(0,M65.next)] M84):=hx_of F90
 obtain⟨E80,c81,bl97,ew82,_⟩:=id G96
 rw[rowsOf_len] at ew82
 subst ew82
 have lg98:M84.log= []:=by rw[←e87];exact lg78
 have X99:=X79.trans E88
 have ltb1M104:=Mem.lt_of_get g95
 obtain⟨w102,N103,M104,p105,l106,e107,E108,hM109,F110⟩:=call_fc (x:=(l,Tell.set)) hM89 con85 (⟨⟨_,_,rfl,AP.Ext (R:=pEdges) (AP.log (R:=pEdges) hl) X99,rfl⟩,hcd.2.2.1,fun e he=>(hcd.2.2.2 e he).2.2.2.2⟩)
 have F112:=hx_ext (R:=pInts) F92 E108
 have F114:=hx_ext (R:=pRowss) F94 E108
 have F115:=hx_ext (R:=pRowss) G96 E108
 have G117:pInts (l.map (tellE .set)) w102 (hidx [(0,M84.next)] M104):=hx_of F110
 obtain⟨a100,c101,ew102⟩:=GRowsAt.form G117
 rw[List.length_map] at ew102
 subst ew102
 have lg118:M104.log= []:=by rw[←e107];exact lg98
 have X119:=X99.trans E108
 obtain⟨b120,M121,eb122,em123,g124,E125,hM126⟩:=new_t hM109 ⟨[sli E61 0 n c62,sli E80 0 n c81,.slice a22 l.length c23,.slice a100 l.length c101],108,4,0,true⟩
 have nb120:M.next≤b120:=by rw[←eb122];exact X119.next
 have F127:=hx_new (R:=pInts) F112 eb122 E125
 have F129:=hx_new (R:=pRowss) F114 eb122 E125
 have F130:=hx_new (R:=pRowss) F115 eb122 E125
 have F131:=hx_new (R:=pInts) G117 eb122 E125
 have lg133:M121.log= []:=by rw[←em123];exact lg118
 have X135:=X119.trans E125
 obtain⟨M136,ef137⟩: ∃m:Mem,m=(Mem.mk M121.blks M121.next M121.hide (M121.log++M26.log)):=⟨_,rfl⟩
 have X138:Ext M M136:=by rw[ef137];exact Ext.join (X36) (X135)
 have hM139:MemOk M136:=by rw[ef137];exact hM126
 have g141:M136.get b120=some ⟨[sli E61 0 n c62,sli E80 0 n c81,.slice a22 l.length c23,.slice a100 l.length c101],108,4,0,true⟩:=by rw[ef137];exact g124
 have F142:=hx_still (R:=pInts) (M':=M136) F127 (fun id b h=>by rw[ef137];exact h)
 have F144:=hx_still (R:=pRowss) (M':=M136) F129 (fun id b h=>by rw[ef137];exact h)
 have F145:=hx_still (R:=pRowss) (M':=M136) F130 (fun id b h=>by rw[ef137];exact h)
 have F146:=hx_still (R:=pInts) (M':=M136) F131 (fun id b h=>by rw[ef137];exact h)
 have hraw:oT Try.prog [] 60 Try.f73 q73 [.agg ⟨[i64 ((n:Int)),.slice al l.length cl]⟩] M [ttV 1 (pt b1 0) M2,ttL 5 (.agg ⟨[i64 ((n:Int)),.slice al l.length cl]⟩),ttV 7 (.bool (chkN (n:Int) l)) M12,ttF 10,ttL 14 (.slice al l.length cl),ttV 16 (.slice a22 l.length c23) M26,ttL 22 (i64 ((n:Int))),ttL 26 (.slice al l.length cl),ttV 28 (.slice a44 l.length c45) M48,ttV 30 (sli E61 0 n c62) M65,ttL 34 (i64 ((n:Int))),ttV 38 (sli E80 0 n c81) M84,ttL 44 (.slice al l.length cl),ttV 46 (.slice a100 l.length c101) M104,ttV 50 (pt b120 0) M121] 2=some (.ret,some (pt b120 0),Mem.mk M121.blks M121.next M26.hide (M121.log++M26.log),[.eq (abox Try.prog 26 (.agg ⟨[i64 ((n:Int)),.slice al l.length cl]⟩) M) (1,.val (pt b1 0),M2),qL 26 b1 0 M2 (.agg ⟨[i64 ((n:Int)),.slice al l.length cl]⟩),qC 20 [.agg ⟨[i64 ((n:Int)),.slice al l.length cl]⟩] M2 (.bool (chkN (n:Int) l)) M12,qF (!(chkN (n:Int) l)),qL 24 b1 1 M12 (.slice al l.length cl),qC 85 [.slice al l.length cl,.func (.func 86) ⟨[]⟩ ⟨[]⟩] M12 (.slice a22 l.length c23) M26,qL 3 b1 0 (Mem.mk M26.blks M26.next M26.hide []) (i64 ((n:Int))),qT (Nat.blt b1 M26.next),qL 24 b1 1 (Mem.mk M26.blks M26.next M26.hide []) (.slice al l.length cl),qC 85 [.slice al l.length cl,.func (.func 88) ⟨[]⟩ ⟨[]⟩] (Mem.mk M26.blks M26.next M26.hide []) (.slice a44 l.length c45) M48,qC 87 [i64 ((n:Int)),.slice a44 l.length c45] (Mem.mk M48.blks M48.next M26.hide M48.log) (sli E61 0 n c62) M65,qL 3 b1 0 (Mem.mk M65.blks M65.next (hides 64 [⟨5,1,M48.next,M65.next⟩,⟨4,1,M26.next,M48.next⟩,⟨3,1,M26.next,M26.next⟩]++M26.hide) M65.log) (i64 ((n:Int))),qT (Nat.blt b1 M26.next),qC 87 [i64 ((n:Int)),.slice a22 l.length c23] (Mem.mk M65.blks M65.next M26.hide M65.log) (sli E80 0 n c81) M84,qL 24 b1 1 (Mem.mk M84.blks M84.next (hides 2048 [⟨9,1,M65.next,M84.next⟩,⟨5,1,M48.next,M65.next⟩,⟨4,1,M26.next,M48.next⟩,⟨3,1,M26.next,M26.next⟩]++M26.hide) M84.log) (.slice al l.length cl),qT (Nat.blt b1 M26.next),qC 85 [.slice al l.length cl,.func (.func 89) ⟨[]⟩ ⟨[]⟩] (Mem.mk M84.blks M84.next M26.hide M84.log) (.slice a100 l.length c101) M104,.eq (abox Try.prog 108 (.agg ⟨[sli E61 0 n c62,sli E80 0 n c81,.slice a22 l.length c23,.slice a100 l.length c101]⟩) (Mem.mk M104.blks M104.next M26.hide M104.log)) (1,.val (pt b120 0),M121),qT (apartN [b1,b1,b1] M121.log)]):=by kernel_rfl
 have rw0:Mem.mk M26.blks M26.next M26.hide []=R37:=eR38.symm
 have rw1:Mem.mk M48.blks M48.next M26.hide M48.log=M48:=by rw[(show M26.hide=M48.hide from((X36).hide.trans (X60).hide.symm))]
 have rw2:Mem.mk M65.blks M65.next M26.hide M65.log=M65:=by rw[(show M26.hide=M65.hide from((X36).hide.trans (X79).hide.symm))]
 have rw3:Mem.mk M65.blks M65.next (hides 64 [⟨5,1,M48.next,M65.next⟩,⟨4,1,M26.next,M48.next⟩,⟨3,1,M26.next,M26.next⟩]++M26.hide) M65.log=hidx (hides 64 [⟨5,1,M48.next,M65.next⟩,⟨4,1,M26.next,M48.next⟩,⟨3,1,M26.next,M26.next⟩]) M65:=by rw[(show M26.hide=M65.hide from((X36).hide.trans (X79).hide.symm))];rfl
 have rw4:Mem.mk M84.blks M84.next M26.hide M84.log=M84:=by rw[(show M26.hide=M84.hide from((X36).hide.trans (X99).hide.symm))]
 have rw5:Mem.mk M84.blks M84.next (hides 2048 [⟨9,1,M65.next,M84.next⟩,⟨5,1,M48.next,M65.next⟩,⟨4,1,M26.next,M48.next⟩,⟨3,1,M26.next,M26.next⟩]++M26.hide) M84.log=hidx (hides 2048 [⟨9,1,M65.next,M84.next⟩,⟨5,1,M48.next,M65.next⟩,⟨4,1,M26.next,M48.next⟩,⟨3,1,M26.next,M26.next⟩]) M84:=by rw[(show M26.hide=M84.hide from((X36).hide.trans (X99).hide.symm))];rfl
 have rw6:Mem.mk M104.blks M104.next M26.hide M104.log=M104:=by rw[(show M26.hide=M104.hide from((X36).hide.trans (X119).hide.symm))]
 have rw8:(Mem.mk M121.blks M121.next M26.hide (M121.log++M26.log))=(Mem.mk M121.blks M121.next M121.hide (M121.log++M26.log)):=by rw[(show M26.hide=M121.hide from((X36).hide.trans (X135).hide.symm))]
 have rw9:(Mem.mk M121.blks M121.next M121.hide (M121.log++M26.log))=M136:=ef137.symm
 try rw[rw0] at hraw
 try rw[rw1] at hraw
 try rw[rw2] at hraw
 try rw[rw3] at hraw
 try rw[rw4] at hraw
 try rw[rw5] at hraw
 try rw[rw6] at hraw
 try rw[rw8] at hraw
 try rw[rw9] at hraw
 exact⟨pt b120 0,M136,Ev.told_tmp noNumP mixedP Try.func73 q73_ok (by kernel_rfl) rK73 (fun B=>sb0 (sbQ 20 Q20 (sbQ 85 Q85 (sbQ 87 Q87 (sbN _))))) (fun _ _=>rfl) hraw (hk (q_eq (by rw[←eb3,←em4];kernel_rfl) Nat.one_ne_zero) (hk (lA ⟨dA26,dS26⟩ g5 rfl) (hk (q_call rfl p13 l14 e15) (hk (bF (by rw[hck];rfl)) (hk (lC dC24 g20 rfl) (hk (q_call rfl p27 l28 e29) (hk (lC dC3 g42 rfl) (hk (q_lt ltb1M26) (hk (lC dC24 g42 rfl) (hk (q_call rfl p49 l50 e51) (hk (q_call rfl p66 l67 e68) (hk (lC dC3 (hidx_get.2 ⟨hides_low (by simp;omega),g75⟩) rfl) (hk (q_lt ltb1M26) (hk (q_call rfl p85 l86 e87) (hk (lC dC24 (hidx_get.2 ⟨hides_low (by simp;omega),g95⟩) rfl) (hk (q_lt ltb1M26) (hk (q_call rfl p105 l106 e107) (hk (q_eq (by rw[←eb122,←em123];kernel_rfl) Nat.one_ne_zero) (hk (q_apart (by rw[lg133];simp<;>omega)) hn))))))))))))))))))),X138,hM139,⟨b120,_,_,_,_,rfl,hid_of nb120 g141,hx_to (R:=pRowss) F144 (by intro id hh;simp only [hidden_con] at hh;omega),hx_to (R:=pRowss) F145 (by intro id hh;simp only [hidden_con] at hh;omega),hx_to (R:=pInts) F142 (by intro id hh;simp only [hidden_con] at hh;omega),hx_to (R:=pInts) F146 (by intro id hh;simp only [hidden_con] at hh;omega)⟩⟩
abbrev Q73:=FC (asP (as1 pNetN) fun x=>chkN (x.1:Int) x.2=true) (newR (pAdj 108)) (fun x=>adjM x.1 x.2)
theorem con73{x:Nat×List E4}{lv:List Value}{M:Mem}(hM:MemOk M)(h:(asP (as1 pNetN) fun x:Nat×List E4=>chkN (x.1:Int) x.2=true) x lv M): ∃v M',Con Try.prog [] 73 Q73 lv M v M':=by
 refine FC.con h ?_
 obtain⟨⟨g0,rfl,k0⟩,hck⟩:=h
 obtain⟨n,l⟩:=x
 obtain⟨_,rfl,hl⟩:=k0
 obtain⟨a,c,rfl⟩:=GRowsAt.form hl
 obtain⟨v,M',h1,h2,_,h3⟩:=w26 n a c l hM hl hck (chkN_spec hck)
 exact⟨v,M',h1,h2,h3⟩
theorem dC29:(Try.prog.underlying 29).map isAggD=some false:=by kernel_rfl
theorem rK92:Try.f92.results= #[.tmp 4]:=by kernel_rfl
theorem w44_0(E c:Nat)(rs:List (List Int))(v:Int)(r:List Int)(ar:Option Addr)(cr:Nat){M:Mem}(hM:MemOk M)(cc0:(decide (v<(0:Int)))=true): ∃v_ M',Ev Try.prog [] 92 [sli E 0 rs.length c,i64 v] M v_ M'∧Ext M M'∧MemOk M'∧v_=sln∧M'=M:=by
 have hraw:oT Try.prog [] 60 Try.f92 q92 [sli E 0 rs.length c,i64 v] M [ttT 8,ttT 10,ttT 12,ttT 14,ttT 17] 4=some (.ret,some sln,M,[qT (decide (v<(0:Int))),qT (decide (v<(0:Int))),qT (decide (v<(0:Int))),qT (decide (v<(0:Int))),qT (decide (v<(0:Int)))]):=by kernel_rfl
 exact⟨sln,M,Ev.told_tmp noNumP mixedP Try.func92 q92_ok (by kernel_rfl) rK92 (specs_none Try.prog) (fun _ _=>rfl) hraw (hk (bT cc0) (hk (bT cc0) (hk (bT cc0) (hk (bT cc0) (hk (bT cc0) hn))))),Ext.refl M,hM,⟨rfl,rfl⟩⟩
theorem w44_1(E c:Nat)(rs:List (List Int))(v:Int)(r:List Int)(ar:Option Addr)(cr:Nat){M:Mem}(hM:MemOk M)(cc0:(decide (v<(0:Int)))=false)(cc1:(decide (v≥((rs.length:Int))))=true): ∃v_ M',Ev Try.prog [] 92 [sli E 0 rs.length c,i64 v] M v_ M'∧Ext M M'∧MemOk M'∧v_=sln∧M'=M:=by
 have hraw:oT Try.prog [] 60 Try.f92 q92 [sli E 0 rs.length c,i64 v] M [ttF 8,ttF 10,ttF 12,ttF 14,ttF 17,ttT 18] 4=some (.ret,some sln,M,[qF (decide (v<(0:Int))),qF (decide (v<(0:Int))),qF (decide (v<(0:Int))),qF (decide (v<(0:Int))),qF (decide (v<(0:Int))),qT (decide (v≥((rs.length:Int))))]):=by kernel_rfl
 exact⟨sln,M,Ev.told_tmp noNumP mixedP Try.func92 q92_ok (by kernel_rfl) rK92 (specs_none Try.prog) (fun _ _=>rfl) hraw (hk (bF cc0) (hk (bF cc0) (hk (bF cc0) (hk (bF cc0) (hk (bF cc0) (hk (bT cc1) hn)))))),Ext.refl M,hM,⟨rfl,rfl⟩⟩
theorem w44_2(E c:Nat)(rs:List (List Int))(v:Int)(r:List Int)(ar:Option Addr)(cr:Nat){M:Mem}(hM:MemOk M)(cc0:(decide (v<(0:Int)))=false)(cc1:(decide (v≥((rs.length:Int))))=false)(hi0:0≤(v:Int)∧(v:Int)<rs.length)(hld1:aload Try.prog 22 ⟨E,0+(v:Int).toNat*1,none⟩ M=some (.slice ar r.length cr)): ∃v_ M',Ev Try.prog [] 92 [sli E 0 rs.length c,i64 v] M v_ M'∧Ext M M'∧MemOk M'∧v_=(.slice ar r.length cr)∧M'=M:=by
 have hraw:oT Try.prog [] 60 Try.f92 q92 [sli E 0 rs.length c,i64 v] M [ttF 8,ttF 10,ttF 12,ttF 14,ttF 17,ttF 18,ttT 24,ttL 26 (.slice ar r.length cr)] 4=some (.ret,some (.slice ar r.length cr),M,[qF (decide (v<(0:Int))),qF (decide (v<(0:Int))),qF (decide (v<(0:Int))),qF (decide (v<(0:Int))),qF (decide (v<(0:Int))),qF (decide (v≥((rs.length:Int)))),.q (.inb v rs.length) (ansB true),qL 22 E (0+(v:Int).toNat*1) M (.slice ar r.length cr)]):=by kernel_rfl
 exact⟨.slice ar r.length cr,M,Ev.told_tmp noNumP mixedP Try.func92 q92_ok (by kernel_rfl) rK92 (specs_none Try.prog) (fun _ _=>rfl) hraw (hk (bF cc0) (hk (bF cc0) (hk (bF cc0) (hk (bF cc0) (hk (bF cc0) (hk (bF cc1) (hk (q_inb hi0.1 hi0.2) (hk (q_ld (hld1)) hn)))))))),Ext.refl M,hM,⟨rfl,rfl⟩⟩
abbrev Q92:=FC (as2 pRowss pI) (plain pInts) (fun x=>rowV x.1 x.2)
theorem con92{x:List (List Int)×Int}{lv:List Value}{M:Mem}(hM:MemOk M)(h:(as2 pRowss pI) x lv M): ∃v M',Con Try.prog [] 92 Q92 lv M v M':=by
 refine FC.con h ?_
 obtain⟨g0,g1,rfl,k0,k1⟩:=h
 obtain⟨rs,v⟩:=x
 obtain rfl:=k1
 obtain⟨E,c,rfl⟩:=rowss_form k0
 by_cases h0:v<0
 ·obtain⟨v',M',h1,h2,_,rfl,rfl⟩:=w44_0 E c rs v [] none 0 hM (decide_eq_true h0)
  refine⟨_,_,h1,h2,?_⟩
  show pInts (rowV rs v) _ _
  rw[show rowV rs v= [] by unfold rowV;rw[if_neg (by omega)]]
  exact GRowsAt.nil none
 ·by_cases h1:v<(rs.length:Int)
  ·have hu:rs[v.toNat]?=some rs[v.toNat]:=List.getElem?_eq_getElem (by omega)
   obtain⟨ar,cr,h2,h3⟩:=ld_rowss (P:=Try.prog) (ty:=22) k0 hu dC22
   obtain⟨v',M',k1,k2,_,rfl,rfl⟩:=w44_2 E c rs v rs[v.toNat] ar cr hM (decide_eq_false h0) (decide_eq_false (by omega)) (by omega) h2
   refine⟨_,_,k1,k2,?_⟩
   show pInts (rowV rs v) _ _
   rw[show rowV rs v=rs[v.toNat] by unfold rowV;rw[if_pos (by omega),hu];rfl]
   exact h3
  ·obtain⟨v',M',k1,k2,_,rfl,rfl⟩:=w44_1 E c rs v [] none 0 hM (decide_eq_false h0) (decide_eq_true (by omega))
   refine⟨_,_,k1,k2,?_⟩
   show pInts (rowV rs v) _ _
   rw[show rowV rs v= [] by unfold rowV;rw[if_pos (by omega),List.getElem?_eq_none (by omega)];rfl]
   exact GRowsAt.nil none
theorem rK77:Try.f77.results= #[.tmp 4]:=by kernel_rfl
theorem w32(ab Eo Ei:Nat)(co ci:Nat)(at_:Option Addr)(ct:Nat)(as_:Option Addr)(cs_:Nat)(ad:AdjM)(v:Int){M:Mem}(hM:MemOk M)(gab:M.get ab=some ⟨[sli Eo 0 ad.out.length co,sli Ei 0 ad.inn.length ci,.slice at_ ad.to.length ct,.slice as_ ad.set.length cs_],108,4,0,true⟩)(hout:pRowss ad.out (sli Eo 0 ad.out.length co) M)(hinn:pRowss ad.inn (sli Ei 0 ad.inn.length ci) M)(hto:pInts ad.to (.slice at_ ad.to.length ct) M)(hset:pInts ad.set (.slice as_ ad.set.length cs_) M)(hok:okA ad): ∃v_ M',Ev Try.prog [] 77 [pt ab 0,i64 v] M v_ M'∧Ext M M'∧MemOk M'∧newR pInts (rowV ad.out v) M.next v_ M':=by
 obtain⟨w4,N5,M6,p7,l8,e9,E10,hM11,F12⟩:=call_fc (x:=(ad.out,v)) hM con92 (⟨_,_,rfl,AP.Ext (R:=pRowss) hout (Ext.refl M),rfl⟩)
 have G3:pInts (rowV ad.out v) w4 M6:=F12
 obtain⟨a1,c2,ew4⟩:=GRowsAt.form G3
 subst ew4
 have X15:=(Ext.refl M).trans E10
 obtain⟨v16,M17,q18,F21,E19,hM20,nw22⟩:=append_rowN (P:=Try.prog) (sT:=22) (xT:=22) (elem:=3) (w:=1) (y:=8) hM11 (by kernel_rfl) (by kernel_rfl) (by kernel_rfl) (by decide) (by decide) rfl G3 (rowV_ok (p:=fun r=>r.length≤1073741824) (fun r hr=>Nat.le_trans (hok.1 r hr).1 (by decide)) (by decide) v) (fun _ _=>rfl)
 have X25:=X15.trans E19
 have hraw:oT Try.prog [] 60 Try.f77 q77 [pt ab 0,i64 v] M [ttL 9 (sli Eo 0 ad.out.length co),ttV 13 (.slice a1 (rowV ad.out v).length c2) M6,ttV 15 v16 M17] 4=some (.ret,some v16,M17,[qL 29 ab 0 M (sli Eo 0 ad.out.length co),qC 92 [sli Eo 0 ad.out.length co,i64 v] M (.slice a1 (rowV ad.out v).length c2) M6,.q (.append [22,22] sln (.slice a1 (rowV ad.out v).length c2) M6) (1,.val v16,M17)]):=by kernel_rfl
 exact⟨v16,M17,Ev.told_tmp noNumP mixedP Try.func77 q77_ok (by kernel_rfl) rK77 (fun B=>sb0 (sbQ 92 Q92 (sbN _))) (fun _ _=>rfl) hraw (hk (lC dC29 gab rfl) (hk (q_call rfl p7 l8 e9) (hk (q_app q18 Nat.one_ne_zero) hn))),X25,hM20,nw_new (X15).next (fun _ _=>rfl) (Nat.le_trans (rowV_ok (p:=fun r=>r.length≤400) (fun r hr=>(hok.1 r hr).1) (by decide) v) (by decide)) nw22⟩
abbrev Q77:=FC (asP (as2 (pAdj 108) pI) fun x=>okA x.1) (newR pInts) (fun x=>rowV x.1.out x.2)
theorem con77{x:AdjM×Int}{lv:List Value}{M:Mem}(hM:MemOk M)(h:(asP (as2 (pAdj 108) pI) fun x:AdjM×Int=>okA x.1) x lv M): ∃v M',Con Try.prog [] 77 Q77 lv M v M':=by
 refine FC.con h ?_
 obtain⟨⟨g0,g1,rfl,k0,k1⟩,hok⟩:=h
 obtain⟨ad,v⟩:=x
 obtain rfl:=k1
 obtain⟨ab,o,i_,t,s,rfl,gab,hout,hinn,hto,hset⟩:=k0
 obtain⟨Eo,co,rfl⟩:=rowss_form hout
 obtain⟨Ei,ci,rfl⟩:=rowss_form hinn
 obtain⟨at_,ct,rfl⟩:=GRowsAt.form hto
 obtain⟨as_,cs_,rfl⟩:=GRowsAt.form hset
 obtain⟨v',M',h1,h2,_,h3⟩:=w32 ab Eo Ei co ci at_ ct as_ cs_ ad v hM gab hout hinn hto hset hok
 exact⟨v',M',h1,h2,h3⟩
theorem rK78:Try.f78.results= #[.tmp 4]:=by kernel_rfl
theorem w33(ab Eo Ei:Nat)(co ci:Nat)(at_:Option Addr)(ct:Nat)(as_:Option Addr)(cs_:Nat)(ad:AdjM)(v:Int){M:Mem}(hM:MemOk M)(gab:M.get ab=some ⟨[sli Eo 0 ad.out.length co,sli Ei 0 ad.inn.length ci,.slice at_ ad.to.length ct,.slice as_ ad.set.length cs_],108,4,0,true⟩)(hout:pRowss ad.out (sli Eo 0 ad.out.length co) M)(hinn:pRowss ad.inn (sli Ei 0 ad.inn.length ci) M)(hto:pInts ad.to (.slice at_ ad.to.length ct) M)(hset:pInts ad.set (.slice as_ ad.set.length cs_) M)(hok:okA ad): ∃v_ M',Ev Try.prog [] 78 [pt ab 0,i64 v] M v_ M'∧Ext M M'∧MemOk M'∧newR pInts (rowV ad.inn v) M.next v_ M':=by
 obtain⟨w4,N5,M6,p7,l8,e9,E10,hM11,F12⟩:=call_fc (x:=(ad.inn,v)) hM con92 (⟨_,_,rfl,AP.Ext (R:=pRowss) hinn (Ext.refl M),rfl⟩)
 have G3:pInts (rowV ad.inn v) w4 M6:=F12
 obtain⟨a1,c2,ew4⟩:=GRowsAt.form G3
 subst ew4
 have X15:=(Ext.refl M).trans E10
 obtain⟨v16,M17,q18,F21,E19,hM20,nw22⟩:=append_rowN (P:=Try.prog) (sT:=22) (xT:=22) (elem:=3) (w:=1) (y:=8) hM11 (by kernel_rfl) (by kernel_rfl) (by kernel_rfl) (by decide) (by decide) rfl G3 (rowV_ok (p:=fun r=>r.length≤1073741824) (fun r hr=>Nat.le_trans (hok.2.1 r hr).1 (by decide)) (by decide) v) (fun _ _=>rfl)
 have X25:=X15.trans E19
 have hraw:oT Try.prog [] 60 Try.f78 q78 [pt ab 0,i64 v] M [ttL 9 (sli Ei 0 ad.inn.length ci),ttV 13 (.slice a1 (rowV ad.inn v).length c2) M6,ttV 15 v16 M17] 4=some (.ret,some v16,M17,[qL 29 ab 1 M (sli Ei 0 ad.inn.length ci),qC 92 [sli Ei 0 ad.inn.length ci,i64 v] M (.slice a1 (rowV ad.inn v).length c2) M6,.q (.append [22,22] sln (.slice a1 (rowV ad.inn v).length c2) M6) (1,.val v16,M17)]):=by kernel_rfl
 exact⟨v16,M17,Ev.told_tmp noNumP mixedP Try.func78 q78_ok (by kernel_rfl) rK78 (fun B=>sb0 (sbQ 92 Q92 (sbN _))) (fun _ _=>rfl) hraw (hk (lC dC29 gab rfl) (hk (q_call rfl p7 l8 e9) (hk (q_app q18 Nat.one_ne_zero) hn))),X25,hM20,nw_new (X15).next (fun _ _=>rfl) (Nat.le_trans (rowV_ok (p:=fun r=>r.length≤400) (fun r hr=>(hok.2.1 r hr).1) (by decide) v) (by decide)) nw22⟩
abbrev Q78:=FC (asP (as2 (pAdj 108) pI) fun x=>okA x.1) (newR pInts) (fun x=>rowV x.1.inn x.2)
theorem con78{x:AdjM×Int}{lv:List Value}{M:Mem}(hM:MemOk M)(h:(asP (as2 (pAdj 108) pI) fun x:AdjM×Int=>okA x.1) x lv M): ∃v M',Con Try.prog [] 78 Q78 lv M v M':=by
 refine FC.con h ?_
 obtain⟨⟨g0,g1,rfl,k0,k1⟩,hok⟩:=h
 obtain⟨ad,v⟩:=x
 obtain rfl:=k1
 obtain⟨ab,o,i_,t,s,rfl,gab,hout,hinn,hto,hset⟩:=k0
 obtain⟨Eo,co,rfl⟩:=rowss_form hout
 obtain⟨Ei,ci,rfl⟩:=rowss_form hinn
 obtain⟨at_,ct,rfl⟩:=GRowsAt.form hto
 obtain⟨as_,cs_,rfl⟩:=GRowsAt.form hset
 obtain⟨v',M',h1,h2,_,h3⟩:=w33 ab Eo Ei co ci at_ ct as_ cs_ ad v hM gab hout hinn hto hset hok
 exact⟨v',M',h1,h2,h3⟩
theorem r43(ab bb o m c i sb so k cs_:Nat)(s x z:Int)(vo vi vt:Value){M:Mem}{M0:Mem}(X0:Ext M0 M)(gab:M.get ab=some ⟨[vo,vi,vt,sli sb so k cs_],108,4,0,true⟩)(cc0:(decide (((i:Int))<((m:Int))))=true)(hld0:aload Try.prog 3 ⟨bb,o+((i:Int):Int).toNat*1,none⟩ M0=some (i64 x))(hi1:0≤(x:Int)∧(x:Int)<k)(hld2:aload Try.prog 3 ⟨sb,so+(x:Int).toNat*1,none⟩ M0=some (i64 z)): ∃T1,Rd Try.prog [] (q99.loopAt 0) Try.f99.ntmps (fr [(0,(pt ab 0)),(5,(i64 s)),(8,(sli bb o m c)),(9,(i64 ((m:Int)))),(10,(i64 ((i:Int))))]) M .normal T1 M∧ [0,5,8,9,10].map T1.get= [some (pt ab 0),some (i64 (orI s z)),some (sli bb o m c),some (i64 ((m:Int))),some (i64 (IntKind.wrap .i64 (((i:Int))+(1:Int))))]:=by
 have hraw:oR Try.prog [] 60 Try.f99 (q99.loopAt 0) [(0,(pt ab 0)),(5,(i64 s)),(8,(sli bb o m c)),(9,(i64 ((m:Int)))),(10,(i64 ((i:Int))))] M [ttT 2,ttT 4,ttL 6 (i64 x),ttL 18 (sli sb so k cs_),ttT 22,ttL 24 (i64 z)] [0,5,8,9,10]=some (.normal,[some (pt ab 0),some (i64 (orI s z)),some (sli bb o m c),some (i64 ((m:Int))),some (i64 (IntKind.wrap .i64 (((i:Int))+(1:Int))))],M,[qT (decide (((i:Int))<((m:Int)))),.q (.inb ((i:Int)) m) (ansB true),qL 3 bb (o+((i:Int):Int).toNat*1) M (i64 x),qL 22 ab 3 M (sli sb so k cs_),.q (.inb x k) (ansB true),qL 3 sb (so+(x:Int).toNat*1) M (i64 z)]):=by kernel_rfl
 obtain⟨T1,h1,h2⟩:=Rd.told noNumP mixedP (specs_none Try.prog) (fun _ _=>rfl) hraw (hk (bT cc0) (hk (q_inb (by omega) (by simp at cc0;omega)) (hk (q_ld (aload_ext X0 hld0)) (hk (lC dC22 gab rfl) (hk (q_inb hi1.1 hi1.2) (hk (q_ld (aload_ext X0 hld2)) hn))))))
 exact⟨T1,h1,h2⟩
theorem r43x(ab:Nat)(a:Option Addr)(m c i:Nat)(s:Int){M:Mem}(cc0:(decide (((i:Int))<((m:Int))))=false): ∃T1,Rd Try.prog [] (q99.loopAt 0) Try.f99.ntmps (fr [(0,(pt ab 0)),(5,(i64 s)),(8,(.slice a m c)),(9,(i64 ((m:Int)))),(10,(i64 ((i:Int))))]) M (.exit 0) T1 M∧ [5].map T1.get= [some (i64 s)]:=by
 have hraw:oR Try.prog [] 60 Try.f99 (q99.loopAt 0) [(0,(pt ab 0)),(5,(i64 s)),(8,(.slice a m c)),(9,(i64 ((m:Int)))),(10,(i64 ((i:Int))))] M [ttF 2] [5]=some ((.exit 0),[some (i64 s)],M,[qF (decide (((i:Int))<((m:Int))))]):=by kernel_rfl
 obtain⟨T1,h1,h2⟩:=Rd.told noNumP mixedP (specs_none Try.prog) (fun _ _=>rfl) hraw (hk (bF cc0) hn)
 exact⟨T1,h1,h2⟩
theorem loop43{ab:Nat}{a as_:Option Addr}{c cs_:Nat}{es set:List Int}{vo vi vt:Value}{M:Mem}(hM:MemOk M)(hs:pInts es (.slice a es.length c) M)(gab:M.get ab=some ⟨[vo,vi,vt,.slice as_ set.length cs_],108,4,0,true⟩)(hset:pInts set (.slice as_ set.length cs_) M)(hb: ∀j∈es,0≤j∧j<(set.length:Int)):
  ∃M',LoopR Try.prog [] (q99.loopAt 0) Try.f99.ntmps (fr [(0,pt ab 0),(5,i64 0),(8,.slice a es.length c),(9,i64 es.length),(10,i64 ((0:Nat):Int))]) M (.exit 0) (fr [(5,i64 (unionI set es))]) M'∧Ext M M'∧MemOk M':=by
 have hlen:=hs.len
 obtain⟨_,M',h1,h2,h3,h4⟩:=LoopR.for (P:=Try.prog) (GL:= []) (b:=q99.loopAt 0) (nt:=Try.f99.ntmps) (id:=0) (σ:=Unit) (n:=es.length) (Inv:=fun i _ M1=>Ext M M1∧MemOk M1∧True)
  (F:=fun i _=> [(0,pt ab 0),(5,i64 (unionI set (es.take i))),(8,.slice a es.length c),(9,i64 es.length),(10,i64 ((i:Nat):Int))])
  (O:=fun _=> [(5,i64 (unionI set (es.take es.length)))])
  (by
   rintro i _ M1 hi ⟨X1,hM1,_⟩
   obtain⟨bb,o,rfl,_⟩:=form_pos hs (by omega)
   have ht:es[i]?=some es[i]:=List.getElem?_eq_getElem hi
   have hbi:=hb _ (List.getElem_mem hi)
   obtain⟨sb,so,rfl,_⟩:=form_pos hset (by omega)
   have hz:set[(es[i]).toNat]?=some set[(es[i]).toNat]:=List.getElem?_eq_getElem (by omega)
   obtain⟨T1,h1,h2⟩:=r43 ab bb o es.length c i sb so set.length cs_ (unionI set (es.take i)) es[i] set[(es[i]).toNat] vo vi vt (M:=M1) X1 (X1.old gab) (decide_eq_true (by omega)) (ld_one (P:=Try.prog) (ty:=3) hs ht rfl dC3) hbi (ld_one (P:=Try.prog) (ty:=3) hset hz rfl dC3)
   rw[wrap_succ (by omega)] at h2
   refine⟨(),T1,M1,h1,?_,X1,hM1,trivial⟩
   rw[List.take_succ_eq_append_getElem hi]
   unfold unionI
   rw[List.foldl_append]
   simp only [List.foldl_cons,List.foldl_nil,hz,Option.getD_some]
   exact h2)
  (by
   rintro _ M1 ⟨X1,hM1,_⟩
   exact r43x ab a es.length c es.length _ (M:=M1) (decide_eq_false (by omega)))
  es.length 0 (by omega) (s:=()) (M:=M) ⟨Ext.refl M,hM,trivial⟩
 rw[List.take_length] at h1
 exact⟨M',h1,h2,h3⟩
theorem rK99:Try.f99.results= #[.tmp 4]:=by kernel_rfl
theorem w43(ab Eo Ei:Nat)(co ci:Nat)(at_:Option Addr)(ct:Nat)(as_:Option Addr)(cs_:Nat)(ad:AdjM)(ae:Option Addr)(ce:Nat)(es:List Int){M:Mem}(hM:MemOk M)(gab:M.get ab=some ⟨[sli Eo 0 ad.out.length co,sli Ei 0 ad.inn.length ci,.slice at_ ad.to.length ct,.slice as_ ad.set.length cs_],108,4,0,true⟩)(hout:pRowss ad.out (sli Eo 0 ad.out.length co) M)(hinn:pRowss ad.inn (sli Ei 0 ad.inn.length ci) M)(hto:pInts ad.to (.slice at_ ad.to.length ct) M)(hset:pInts ad.set (.slice as_ ad.set.length cs_) M)(hok:okA ad)(hes:pInts es (.slice ae es.length ce) M)(hb: ∀j∈es,0≤j∧j<(ad.set.length:Int)): ∃v_ M',Ev Try.prog [] 99 [pt ab 0,.slice ae es.length ce] M v_ M'∧Ext M M'∧MemOk M'∧v_=i64 (unionI ad.set es):=by
 obtain⟨M1,hL2,E3,hM4⟩:=loop43 hM (AP.Ext (R:=pInts) hes (Ext.refl M)) gab (AP.Ext (R:=pInts) hset (Ext.refl M)) hb
 have X7:=(Ext.refl M).trans E3
 have hraw:oT Try.prog [0] 60 Try.f99 q99 [pt ab 0,.slice ae es.length ce] M [ttT 7,.blk 10 [0,5,8,9,10] .normal (fr [(5,(i64 (unionI ad.set es)))]) M1] 4=some (.ret,some (i64 (unionI ad.set es)),M1,[.ln ae es.length ce,.blk 0 (.loop (q99.loopAt 0)) Try.f99.ntmps [0,5,8,9,10] [some (pt ab 0),some (i64 0),some (.slice ae es.length ce),some (i64 ((es.length:Int))),some (i64 0)] M .normal (fr [(5,(i64 (unionI ad.set es)))]) M1]):=by kernel_rfl
 exact⟨i64 (unionI ad.set es),M1,Ev.told_tmp noNumP mixedP Try.func99 q99_ok (by kernel_rfl) rK99 (fun B=>sb1 (sbN B) 0 hL2) (fun _ h=>blksF_one h) hraw (hk (lN hes.ln) (hk (q_blk rfl) hn)),X7,hM4,rfl⟩
abbrev Q99:=FC (asP (as2 (pAdj 108) pInts) fun x=>okA x.1∧ ∀j∈x.2,0≤j∧j<(x.1.set.length:Int)) (plain pI) (fun x=>unionI x.1.set x.2)
theorem con99{x:AdjM×List Int}{lv:List Value}{M:Mem}(hM:MemOk M)(h:(asP (as2 (pAdj 108) pInts) fun x:AdjM×List Int=>okA x.1∧ ∀j∈x.2,0≤j∧j<(x.1.set.length:Int)) x lv M): ∃v M',Con Try.prog [] 99 Q99 lv M v M':=by
 refine FC.con h ?_
 obtain⟨⟨g0,g1,rfl,k0,k1⟩,hok,hb⟩:=h
 obtain⟨ad,es⟩:=x
 obtain⟨ae,ce,rfl⟩:=GRowsAt.form k1
 obtain⟨ab,o,i_,t,s,rfl,gab,hout,hinn,hto,hset⟩:=k0
 obtain⟨Eo,co,rfl⟩:=rowss_form hout
 obtain⟨Ei,ci,rfl⟩:=rowss_form hinn
 obtain⟨at_,ct,rfl⟩:=GRowsAt.form hto
 obtain⟨as_,cs_,rfl⟩:=GRowsAt.form hset
 obtain⟨v',M',h1,h2,_,h3⟩:=w43 ab Eo Ei co ci at_ ct as_ cs_ ad ae ce es hM gab hout hinn hto hset hok k1 hb
 exact⟨v',M',h1,h2,h3⟩
theorem rK91:Try.f91.results= #[.tmp 4]:=by kernel_rfl
theorem w29(ab Eo Ei:Nat)(co ci:Nat)(at_:Option Addr)(ct:Nat)(as_:Option Addr)(cs_:Nat)(ad:AdjM)(v:Int){M:Mem}(hM:MemOk M)(gab:M.get ab=some ⟨[sli Eo 0 ad.out.length co,sli Ei 0 ad.inn.length ci,.slice at_ ad.to.length ct,.slice as_ ad.set.length cs_],108,4,0,true⟩)(hout:pRowss ad.out (sli Eo 0 ad.out.length co) M)(hinn:pRowss ad.inn (sli Ei 0 ad.inn.length ci) M)(hto:pInts ad.to (.slice at_ ad.to.length ct) M)(hset:pInts ad.set (.slice as_ ad.set.length cs_) M)(hok:okA ad)(hadj:pAdj 108 ad (pt ab 0) M): ∃v_ M',Ev Try.prog [] 91 [pt ab 0,i64 v] M v_ M'∧Ext M M'∧MemOk M'∧v_=i64 (modesI ad v):=by
 obtain⟨R1,eR2⟩: ∃m:Mem,m=Mem.mk M.blks M.next M.hide []:=⟨_,rfl⟩
 have X3:Ext (Mem.mk M.blks M.next M.hide []) R1:=by rw[eR2];exact Ext.aside ((Ext.refl M))
 have lg4:R1.log= []:=by rw[eR2]
 have hM5:MemOk R1:=by rw[eR2];exact MemOk.log hM
 have ltabM:ab<M.next:=by have h:=Mem.lt_of_get gab;exact h
 have g6:R1.get ab=some ⟨[sli Eo 0 ad.out.length co,sli Ei 0 ad.inn.length ci,.slice at_ ad.to.length ct,.slice as_ ad.set.length cs_],108,4,0,true⟩:=by rw[eR2];exact gab
 obtain⟨w10,N11,M12,p13,l14,e15,E16,hM17,F18⟩:=call_fc (x:=(ad.out,v)) hM5 con92 (⟨_,_,rfl,AP.Ext (R:=pRowss) (AP.log (R:=pRowss) hout) X3,rfl⟩)
 have g20:=E16.old g6
 have G9:pInts (rowV ad.out v) w10 M12:=F18
 obtain⟨a7,c8,ew10⟩:=GRowsAt.form G9
 subst ew10
 have lg21:M12.log= []:=by rw[←e15];exact lg4
 have X22:=X3.trans E16
 have ltabM25:=Mem.lt_of_get g20
 obtain⟨w23,N24,M25,p26,l27,e28,E29,hM30,F31⟩:=call_fc (x:=(ad,rowV ad.out v)) hM17 con99 (⟨⟨_,_,rfl,AP.Ext (R:=pAdj 108) (AP.log (R:=pAdj 108) hadj) X22,G9⟩,hok,rowV_ok (p:=fun r=> ∀j∈r,0≤j∧j<(ad.set.length:Int)) (fun r hr=>(hok.1 r hr).2) (fun _ h=>by cases h) v⟩)
 have g34:=E29.old g20
 have ew23:w23=(i64 (unionI ad.set (rowV ad.out v))):=F31
 subst ew23
 have lg35:M25.log= []:=by rw[←e28];exact lg21
 have X36:=X22.trans E29
 obtain⟨w40,N41,M42,p43,l44,e45,E46,hM47,F48⟩:=call_fc (x:=(ad.inn,v)) hM30 con92 (⟨_,_,rfl,AP.Ext (R:=pRowss) (AP.log (R:=pRowss) hinn) X36,rfl⟩)
 have G39:pInts (rowV ad.inn v) w40 M42:=F48
 obtain⟨a37,c38,ew40⟩:=GRowsAt.form G39
 subst ew40
 have lg52:M42.log= []:=by rw[←e45];exact lg35
 have X53:=X36.trans E46
 obtain⟨w54,N55,M56,p57,l58,e59,E60,hM61,F62⟩:=call_fc (x:=(ad,rowV ad.inn v)) hM47 con99 (⟨⟨_,_,rfl,AP.Ext (R:=pAdj 108) (AP.log (R:=pAdj 108) hadj) X53,G39⟩,hok,rowV_ok (p:=fun r=> ∀j∈r,0≤j∧j<(ad.set.length:Int)) (fun r hr=>(hok.2.1 r hr).2) (fun _ h=>by cases h) v⟩)
 have ew54:w54=(i64 (unionI ad.set (rowV ad.inn v))):=F62
 subst ew54
 have lg67:M56.log= []:=by rw[←e59];exact lg52
 have X68:=X53.trans E60
 obtain⟨M69,ef70⟩: ∃m:Mem,m=(Mem.mk M56.blks M56.next M56.hide (M56.log++M.log)):=⟨_,rfl⟩
 have X71:Ext M M69:=by rw[ef70];exact Ext.join ((Ext.refl M)) (X68)
 have hM72:MemOk M69:=by rw[ef70];exact hM61
 have hraw:oT Try.prog [] 60 Try.f91 q91 [pt ab 0,i64 v] M [ttL 11 (sli Eo 0 ad.out.length co),ttV 15 (.slice a7 (rowV ad.out v).length c8) M12,ttV 17 (i64 (unionI ad.set (rowV ad.out v))) M25,ttL 27 (sli Ei 0 ad.inn.length ci),ttV 31 (.slice a37 (rowV ad.inn v).length c38) M42,ttV 33 (i64 (unionI ad.set (rowV ad.inn v))) M56] 4=some (.ret,some (i64 (orI (unionI ad.set (rowV ad.out v)) (unionI ad.set (rowV ad.inn v)))),Mem.mk M56.blks M56.next M.hide (M56.log++M.log),[qL 29 ab 0 (Mem.mk M.blks M.next M.hide []) (sli Eo 0 ad.out.length co),qC 92 [sli Eo 0 ad.out.length co,i64 v] (Mem.mk M.blks M.next M.hide []) (.slice a7 (rowV ad.out v).length c8) M12,qC 99 [pt ab 0,.slice a7 (rowV ad.out v).length c8] (Mem.mk M12.blks M12.next M.hide M12.log) (i64 (unionI ad.set (rowV ad.out v))) M25,qL 29 ab 1 (Mem.mk M25.blks M25.next (hides 3584 [⟨7,1,M12.next,M25.next⟩,⟨6,1,M.next,M12.next⟩,⟨4,1,M.next,M.next⟩]++M.hide) M25.log) (sli Ei 0 ad.inn.length ci),qT (Nat.blt ab M.next),qC 92 [sli Ei 0 ad.inn.length ci,i64 v] (Mem.mk M25.blks M25.next M.hide M25.log) (.slice a37 (rowV ad.inn v).length c38) M42,qC 99 [pt ab 0,.slice a37 (rowV ad.inn v).length c38] (Mem.mk M42.blks M42.next M.hide M42.log) (i64 (unionI ad.set (rowV ad.inn v))) M56,qT (apartN [ab] M56.log)]):=by kernel_rfl
 have rw0:Mem.mk M.blks M.next M.hide []=R1:=eR2.symm
 have rw1:Mem.mk M12.blks M12.next M.hide M12.log=M12:=by rw[(show M.hide=M12.hide from(((Ext.refl M)).hide.trans (X22).hide.symm))]
 have rw2:Mem.mk M25.blks M25.next M.hide M25.log=M25:=by rw[(show M.hide=M25.hide from(((Ext.refl M)).hide.trans (X36).hide.symm))]
 have rw3:Mem.mk M25.blks M25.next (hides 3584 [⟨7,1,M12.next,M25.next⟩,⟨6,1,M.next,M12.next⟩,⟨4,1,M.next,M.next⟩]++M.hide) M25.log=hidx (hides 3584 [⟨7,1,M12.next,M25.next⟩,⟨6,1,M.next,M12.next⟩,⟨4,1,M.next,M.next⟩]) M25:=by rw[(show M.hide=M25.hide from(((Ext.refl M)).hide.trans (X36).hide.symm))];rfl
 have rw4:Mem.mk M42.blks M42.next M.hide M42.log=M42:=by rw[(show M.hide=M42.hide from(((Ext.refl M)).hide.trans (X53).hide.symm))]
 have rw6:(Mem.mk M56.blks M56.next M.hide (M56.log++M.log))=(Mem.mk M56.blks M56.next M56.hide (M56.log++M.log)):=by rw[(show M.hide=M56.hide from(((Ext.refl M)).hide.trans (X68).hide.symm))]
 have rw7:(Mem.mk M56.blks M56.next M56.hide (M56.log++M.log))=M69:=ef70.symm
 try rw[rw0] at hraw
 try rw[rw1] at hraw
 try rw[rw2] at hraw
 try rw[rw3] at hraw
 try rw[rw4] at hraw
 try rw[rw6] at hraw
 try rw[rw7] at hraw
 exact⟨i64 (orI (unionI ad.set (rowV ad.out v)) (unionI ad.set (rowV ad.inn v))),M69,Ev.told_tmp noNumP mixedP Try.func91 q91_ok (by kernel_rfl) rK91 (fun B=>sb0 (sbQ 99 Q99 (sbQ 92 Q92 (sbN _)))) (fun _ _=>rfl) hraw (hk (lC dC29 g6 rfl) (hk (q_call rfl p13 l14 e15) (hk (q_call rfl p26 l27 e28) (hk (lC dC29 (hidx_get.2 ⟨hides_low (by simp;omega),g34⟩) rfl) (hk (q_lt ltabM) (hk (q_call rfl p43 l44 e45) (hk (q_call rfl p57 l58 e59) (hk (q_apart (by rw[lg67];simp<;>omega)) hn)))))))),X71,hM72,rfl⟩
abbrev Q91:=FC (asP (as2 (pAdj 108) pI) fun x=>okA x.1) (plain pI) (fun x=>modesI x.1 x.2)
theorem con91{x:AdjM×Int}{lv:List Value}{M:Mem}(hM:MemOk M)(h:(asP (as2 (pAdj 108) pI) fun x:AdjM×Int=>okA x.1) x lv M): ∃v M',Con Try.prog [] 91 Q91 lv M v M':=by
 refine FC.con h ?_
 obtain⟨⟨g0,g1,rfl,k0,k1⟩,hok⟩:=h
 obtain⟨ad,v⟩:=x
 obtain rfl:=k1
 have hadj:=k0
 obtain⟨ab,o,i_,t,s,rfl,gab,hout,hinn,hto,hset⟩:=k0
 obtain⟨Eo,co,rfl⟩:=rowss_form hout
 obtain⟨Ei,ci,rfl⟩:=rowss_form hinn
 obtain⟨at_,ct,rfl⟩:=GRowsAt.form hto
 obtain⟨as_,cs_,rfl⟩:=GRowsAt.form hset
 obtain⟨v',M',h1,h2,_,h3⟩:=w29 ab Eo Ei co ci at_ ct as_ cs_ ad v hM gab hout hinn hto hset hok hadj
 exact⟨v',M',h1,h2,h3⟩
theorem dC75:(Try.prog.underlying 75).map isAggD=some false:=by kernel_rfl
theorem dA77:(Try.prog.underlying 77).map isAggD=some true:=by kernel_rfl
theorem dS77:(Try.prog.info? 77).map (·.size)=some 2:=by kernel_rfl
theorem ones_all(M:Mem): ∀k:Nat,k<32→Go.Am.arun Try.prog [] noSpecs 1000 90 [.int .u64 (k:Int)] M=some (i64 ((popN k:Nat):Int),M):=by
 intro k h
 have hc:k=0∨k=1∨k=2∨k=3∨k=4∨k=5∨k=6∨k=7∨k=8∨k=9∨k=10∨k=11∨k=12∨k=13∨k=14∨k=15∨k=16∨k=17∨k=18∨k=19∨k=20∨k=21∨k=22∨k=23∨k=24∨k=25∨k=26∨k=27∨k=28∨k=29∨k=30∨k=31:=by omega
 rcases hc with rfl|rfl|rfl|rfl|rfl|rfl|rfl|rfl|rfl|rfl|rfl|rfl|rfl|rfl|rfl|rfl|rfl|rfl|rfl|rfl|rfl|rfl|rfl|rfl|rfl|rfl|rfl|rfl|rfl|rfl|rfl|rfl<;>(show Go.Am.arun Try.prog [] noSpecs 1000 90 _ M=_)<;>kernel_rfl
abbrev Q90:=FC (asP (as1 pU) fun k=>k<32) (plain pI) (fun k=>((popN k:Nat):Int))
theorem con90{k:Nat}{lv:List Value}{M:Mem}(hM:MemOk M)(h:(asP (as1 pU) fun k=>k<32) k lv M): ∃v M',Con Try.prog [] 90 Q90 lv M v M':=by
 refine FC.con h ?_
 obtain⟨⟨g0,rfl,rfl⟩,hk⟩:=h
 exact⟨_,M,Ev.of_spec (fun B=>SpecOk.arun noNumP mixedP SpecsOk.none 1000 90) (ones_all M k hk),Ext.refl M,rfl⟩
theorem rK76:Try.f76.results= #[.tmp 4]:=by kernel_rfl
theorem w21(n ab:Nat)(ad:AdjM)(v:Int){M:Mem}(hM:MemOk M)(hadj:pAdj 108 ad (pt ab 0) M)(hok:okA ad): ∃v_ M',Ev Try.prog [] 76 [.agg ⟨[i64 ((n:Int)),pt ab 0]⟩,i64 v] M v_ M'∧Ext M M'∧MemOk M'∧v_= .bool (linkB ad v):=by
 obtain⟨b1,M2,eb3,em4,g5,E6,hM7⟩:=new_t hM ⟨[i64 ((n:Int)),pt ab 0],77,2,0,true⟩
 have X9:=(Ext.refl M).trans E6
 obtain⟨w10,N11,M12,p13,l14,e15,E16,hM17,F18⟩:=call_fc (x:=(ad,v)) hM7 con91 (⟨⟨_,_,rfl,AP.Ext (R:=pAdj 108) hadj X9,rfl⟩,hok⟩)
 have ew10:w10=(i64 (modesI ad v)):=F18
 subst ew10
 have X21:=X9.trans E16
 obtain⟨w22,N23,M24,p25,l26,e27,E28,hM29,F30⟩:=call_fc (x:=(modesI ad v).toNat) hM17 con90 (⟨⟨_,rfl,congrArg (Value.int .u64) (wrapU (modesI_range hok v))⟩,by have:=modesI_range hok v;omega⟩)
 have ew22:w22=(i64 (((popN (modesI ad v).toNat:Nat):Int))):=F30
 subst ew22
 have X33:=X21.trans E28
 have hraw:oT Try.prog [] 60 Try.f76 q76 [.agg ⟨[i64 ((n:Int)),pt ab 0]⟩,i64 v] M [ttV 1 (pt b1 0) M2,ttL 7 (pt ab 0),ttV 11 (i64 (modesI ad v)) M12,ttV 15 (i64 (((popN (modesI ad v).toNat:Nat):Int))) M24] 4=some (.ret,some (.bool (decide ((((popN (modesI ad v).toNat:Nat):Int))≥(2:Int)))),M24,[.eq (abox Try.prog 77 (.agg ⟨[i64 ((n:Int)),pt ab 0]⟩) M) (1,.val (pt b1 0),M2),qL 75 b1 1 M2 (pt ab 0),qC 91 [pt ab 0,i64 v] M2 (i64 (modesI ad v)) M12,qC 90 [.int .u64 (IntKind.wrap .u64 (modesI ad v))] M12 (i64 (((popN (modesI ad v).toNat:Nat):Int))) M24]):=by kernel_rfl
 exact⟨.bool (decide ((((popN (modesI ad v).toNat:Nat):Int))≥(2:Int))),M24,Ev.told_tmp noNumP mixedP Try.func76 q76_ok (by kernel_rfl) rK76 (fun B=>sb0 (sbQ 90 Q90 (sbQ 91 Q91 (sbN _)))) (fun _ _=>rfl) hraw (hk (q_eq (by rw[←eb3,←em4];kernel_rfl) Nat.one_ne_zero) (hk (lC dC75 g5 rfl) (hk (q_call rfl p13 l14 e15) (hk (q_call rfl p25 l26 e27) hn)))),X33,hM29,rfl⟩
abbrev Q76:=FC (asP (as2 (pSight 108) pI) fun x=>okA x.1.2) (plain pB) (fun x=>linkB x.1.2 x.2)
theorem con76{x:(Nat×AdjM)×Int}{lv:List Value}{M:Mem}(hM:MemOk M)(h:(asP (as2 (pSight 108) pI) fun x:(Nat×AdjM)×Int=>okA x.1.2) x lv M): ∃v M',Con Try.prog [] 76 Q76 lv M v M':=by
 refine FC.con h ?_
 obtain⟨⟨g0,g1,rfl,k0,k1⟩,hok⟩:=h
 obtain⟨⟨n,ad⟩,v⟩:=x
 obtain rfl:=k1
 obtain⟨p,rfl,hadj⟩:=k0
 obtain⟨ab,o,i_,t,s,rfl,gab,hout,hinn,hto,hset⟩:=id hadj
 obtain⟨v',M',h1,h2,_,h3⟩:=w21 n ab ad v hM hadj hok
 exact⟨v',M',h1,h2,h3⟩
theorem rK54:Try.f54.results= #[.tmp 4]:=by kernel_rfl
theorem w25(n ab:Nat)(ad:AdjM)(v:Int){M:Mem}(hM:MemOk M)(hadj:pAdj 108 ad (pt ab 0) M)(hok:okA ad): ∃v_ M',Ev Try.prog [] 54 [.agg ⟨[i64 ((n:Int)),pt ab 0]⟩,i64 v] M v_ M'∧Ext M M'∧MemOk M'∧v_=i64 ((endsN ad v:Nat):Int):=by
 obtain⟨b1,M2,eb3,em4,g5,E6,hM7⟩:=new_t hM ⟨[i64 ((n:Int)),pt ab 0],77,2,0,true⟩
 have X9:=(Ext.refl M).trans E6
 obtain⟨R10,eR11⟩: ∃m:Mem,m=Mem.mk M2.blks M2.next M2.hide []:=⟨_,rfl⟩
 have X12:Ext (Mem.mk M.blks M.next M.hide []) R10:=by rw[eR11];exact Ext.aside (X9)
 have lg13:R10.log= []:=by rw[eR11]
 have hM14:MemOk R10:=by rw[eR11];exact MemOk.log hM7
 have ltb1M2:b1<M2.next:=by have h:=Mem.lt_of_get g5;exact h
 have g15:R10.get b1=some ⟨[i64 ((n:Int)),pt ab 0],77,2,0,true⟩:=by rw[eR11];exact g5
 obtain⟨w19,N20,M21,p22,l23,e24,E25,hM26,F27⟩:=call_fc (x:=(ad,v)) hM14 con77 (⟨⟨_,_,rfl,AP.Ext (R:=pAdj 108) (AP.log (R:=pAdj 108) hadj) X12,rfl⟩,hok⟩)
 have g29:=E25.old g15
 have G18:pInts (rowV ad.out v) w19 M21:=newR.out (R:=pInts) F27
 obtain⟨a16,c17,ew19⟩:=GRowsAt.form G18
 subst ew19
 have lna16:=GRowsAt.ln G18
 have lg30:M21.log= []:=by rw[←e24];exact lg13
 have X31:=X12.trans E25
 obtain⟨w35,N36,M37,p38,l39,e40,E41,hM42,F43⟩:=call_fc (x:=(ad,v)) hM26 con78 (⟨⟨_,_,rfl,AP.Ext (R:=pAdj 108) (AP.log (R:=pAdj 108) hadj) X31,rfl⟩,hok⟩)
 have G34:pInts (rowV ad.inn v) w35 M37:=newR.out (R:=pInts) F43
 obtain⟨a32,c33,ew35⟩:=GRowsAt.form G34
 subst ew35
 have lna32:=GRowsAt.ln G34
 have lg46:M37.log= []:=by rw[←e40];exact lg30
 have X47:=X31.trans E41
 obtain⟨M48,ef49⟩: ∃m:Mem,m=(Mem.mk M37.blks M37.next M37.hide (M37.log++M2.log)):=⟨_,rfl⟩
 have X50:Ext M M48:=by rw[ef49];exact Ext.join (X9) (X47)
 have hM51:MemOk M48:=by rw[ef49];exact hM42
 have hraw:oT Try.prog [] 60 Try.f54 q54 [.agg ⟨[i64 ((n:Int)),pt ab 0]⟩,i64 v] M [ttV 1 (pt b1 0) M2,ttL 7 (pt ab 0),ttV 11 (.slice a16 (rowV ad.out v).length c17) M21,ttT 13,ttL 17 (pt ab 0),ttV 21 (.slice a32 (rowV ad.inn v).length c33) M37,ttT 23] 4=some (.ret,some (i64 (IntKind.wrap .i64 (((((rowV ad.out v).length:Nat):Int))+((((rowV ad.inn v).length:Nat):Int))))),Mem.mk M37.blks M37.next M2.hide (M37.log++M2.log),[.eq (abox Try.prog 77 (.agg ⟨[i64 ((n:Int)),pt ab 0]⟩) M) (1,.val (pt b1 0),M2),qL 75 b1 1 (Mem.mk M2.blks M2.next M2.hide []) (pt ab 0),qC 77 [pt ab 0,i64 v] (Mem.mk M2.blks M2.next M2.hide []) (.slice a16 (rowV ad.out v).length c17) M21,.ln a16 (rowV ad.out v).length c17,qL 75 b1 1 (Mem.mk M21.blks M21.next (hides 32 [⟨3,1,M2.next,M21.next⟩,⟨1,1,M2.next,M2.next⟩]++M2.hide) M21.log) (pt ab 0),qT (Nat.blt b1 M2.next),qC 78 [pt ab 0,i64 v] (Mem.mk M21.blks M21.next M2.hide M21.log) (.slice a32 (rowV ad.inn v).length c33) M37,.ln a32 (rowV ad.inn v).length c33,qT (apartN [b1] M37.log)]):=by kernel_rfl
 have rw0:Mem.mk M2.blks M2.next M2.hide []=R10:=eR11.symm
 have rw1:Mem.mk M21.blks M21.next M2.hide M21.log=M21:=by rw[(show M2.hide=M21.hide from((X9).hide.trans (X31).hide.symm))]
 have rw2:Mem.mk M21.blks M21.next (hides 32 [⟨3,1,M2.next,M21.next⟩,⟨1,1,M2.next,M2.next⟩]++M2.hide) M21.log=hidx (hides 32 [⟨3,1,M2.next,M21.next⟩,⟨1,1,M2.next,M2.next⟩]) M21:=by rw[(show M2.hide=M21.hide from((X9).hide.trans (X31).hide.symm))];rfl
 have rw4:(Mem.mk M37.blks M37.next M2.hide (M37.log++M2.log))=(Mem.mk M37.blks M37.next M37.hide (M37.log++M2.log)):=by rw[(show M2.hide=M37.hide from((X9).hide.trans (X47).hide.symm))]
 have rw5:(Mem.mk M37.blks M37.next M37.hide (M37.log++M2.log))=M48:=ef49.symm
 try rw[rw0] at hraw
 try rw[rw1] at hraw
 try rw[rw2] at hraw
 try rw[rw4] at hraw
 try rw[rw5] at hraw
 exact⟨i64 (IntKind.wrap .i64 (((((rowV ad.out v).length:Nat):Int))+((((rowV ad.inn v).length:Nat):Int)))),M48,Ev.told_tmp noNumP mixedP Try.func54 q54_ok (by kernel_rfl) rK54 (fun B=>sb0 (sbQ 77 Q77 (sbQ 78 Q78 (sbN _)))) (fun _ _=>rfl) hraw (hk (q_eq (by rw[←eb3,←em4];kernel_rfl) Nat.one_ne_zero) (hk (lC dC75 g15 rfl) (hk (q_call rfl p22 l23 e24) (hk (lN lna16) (hk (lC dC75 (hidx_get.2 ⟨hides_low (by simp;omega),g29⟩) rfl) (hk (q_lt ltb1M2) (hk (q_call rfl p38 l39 e40) (hk (lN lna32) (hk (q_apart (by rw[lg46];simp<;>omega)) hn))))))))),X50,hM51,congrArg i64 (wrap_add (by have:=endsN_le hok v;unfold endsN at this;omega))⟩
abbrev Q54:=FC (asP (as2 (pSight 108) pI) fun x=>okA x.1.2) (plain pI) (fun x=>((endsN x.1.2 x.2:Nat):Int))
theorem con54{x:(Nat×AdjM)×Int}{lv:List Value}{M:Mem}(hM:MemOk M)(h:(asP (as2 (pSight 108) pI) fun x:(Nat×AdjM)×Int=>okA x.1.2) x lv M): ∃v M',Con Try.prog [] 54 Q54 lv M v M':=by
 refine FC.con h ?_
 obtain⟨⟨g0,g1,rfl,k0,k1⟩,hok⟩:=h
 obtain⟨⟨n,ad⟩,v⟩:=x
 obtain rfl:=k1
 obtain⟨p,rfl,hadj⟩:=k0
 obtain⟨ab,o,i_,t,s,rfl,gab,hout,hinn,hto,hset⟩:=id hadj
 obtain⟨v',M',h1,h2,_,h3⟩:=w25 n ab ad v hM hadj hok
 exact⟨v',M',h1,h2,h3⟩
theorem rK51:Try.f51.results= #[.cell 2 77]:=by kernel_rfl
theorem w20(n:Nat)(al:Option Addr)(cl:Nat)(l:List E4){M:Mem}(hM:MemOk M)(hl:pEdges l (.slice al l.length cl) M)(hck:chkN (n:Int) l=true): ∃v_ M',Ev Try.prog [] 51 [.agg ⟨[i64 ((n:Int)),.slice al l.length cl]⟩] M v_ M'∧Ext M M'∧MemOk M'∧newR (pSight 108) (n,adjM n l) M.next v_ M':=by
 obtain⟨b1,M2,eb3,em4,g5,E6,hM7⟩:=new_t hM ⟨[i64 ((n:Int)),.slice al l.length cl],26,2,0,true⟩
 have X9:=(Ext.refl M).trans E6
 obtain⟨b10,M11,eb12,em13,g14,E15,hM16⟩:=new_t hM7 ⟨[i64 0,.pointer none],77,2,0,true⟩
 have nb10:M.next≤b10:=by rw[←eb12];exact X9.next
 have g17:=E15.old g5
 have X19:=X9.trans E15
 have ltb1M24:=Mem.lt_of_get g17
 have ltb10M24:=Mem.lt_of_get g14
 obtain⟨w22,N23,M24,p25,l26,e27,E28,hM29,F30⟩:=call_fc (x:=(n,l)) hM16 con73 (⟨⟨_,rfl,_,rfl,AP.Ext (R:=pEdges) hl X19⟩,hck⟩)
 have g32:=E28.old g17
 have g33:=E28.old g14
 have G21:pAdj 108 (adjM n l) w22 (hidx [(0,M11.next)] M24):=hx_of F30
 obtain⟨ab20,_,_,_,_,ew22,_⟩:=id G21
 subst ew22
 have X34:=X19.trans E28
 obtain⟨b35,M36,eb37,em38,g39,E40,hM41⟩:=new_t hM29 ⟨[i64 0,.pointer none],77,2,0,true⟩
 have nb35:M.next≤b35:=by rw[←eb37];exact X34.next
 have db1b35:b1≠b35:=by have:=Mem.lt_of_get g32;omega
 have db10b35:b10≠b35:=by have:=Mem.lt_of_get g33;omega
 have F42:=hx_new (R:=(pAdj 108)) G21 eb37 E40
 have g43:=E40.old g32
 have g44:=E40.old g33
 have X46:=X34.trans E40
 obtain⟨M47,q48,g49,kp50,X51,hM52,nx53⟩:=store_t (o:=0) (v:=(.agg ⟨[i64 0,pt ab20 0]⟩)) (new:= [i64 0,pt ab20 0]) X46 nb35 hM41 dS77 g39 rfl rfl (Nat.zero_le _) (Nat.le_of_ble_eq_true rfl) rfl
 replace g49:M47.get b35=some ⟨[i64 0,pt ab20 0],77,2,0,true⟩:=g49
 have F54:=hx_keep (R:=(pAdj 108)) F42 (fun id h _=>kp50 id h) (by intro id hh;simp only [hidden_con] at hh;omega)
 have g55:=(kp50 _ db1b35).trans g43
 have g56:=(kp50 _ db10b35).trans g44
 obtain⟨w57,N58,M59,p60,l61,e62,E63,hM64,F65⟩:=call_fc (x:=((n:Int),l)) hM52 con20 (⟨_,rfl,_,rfl,AP.Ext (R:=pEdges) hl X51⟩)
 have F67:=hx_ext (R:=(pAdj 108)) F54 E63
 have g68:=E63.old g55
 have g69:=E63.old g56
 have g70:=E63.old g49
 have ew57:w57=(.bool (chkN (n:Int) l)):=F65
 subst ew57
 have X71:=X51.trans E63
 obtain⟨M72,q73,g74,kp75,X76,hM77,nx78⟩:=store_t (o:=0) (v:=(i64 ((n:Int)))) (new:= [i64 ((n:Int)),pt ab20 0]) X71 nb35 hM64 dS3 g70 rfl rfl (Nat.zero_le _) (Nat.le_of_ble_eq_true rfl) rfl
 replace g74:M72.get b35=some ⟨[i64 ((n:Int)),pt ab20 0],77,2,0,true⟩:=g74
 have F79:=hx_keep (R:=(pAdj 108)) F67 (fun id h _=>kp75 id h) (by intro id hh;simp only [hidden_con] at hh;omega)
 have g81:=(kp75 _ db10b35).trans g69
 obtain⟨M82,q83,g84,kp85,X86,hM87,nx88⟩:=store_t (o:=0) (v:=(.agg ⟨[i64 ((n:Int)),pt ab20 0]⟩)) (new:= [i64 ((n:Int)),pt ab20 0]) X76 nb10 hM77 dS77 g81 rfl rfl (Nat.zero_le _) (Nat.le_of_ble_eq_true rfl) rfl
 replace g84:M82.get b10=some ⟨[i64 ((n:Int)),pt ab20 0],77,2,0,true⟩:=g84
 have F89:=hx_keep (R:=(pAdj 108)) F79 (fun id h _=>kp85 id h) (by intro id hh;simp only [hidden_con] at hh;omega)
 have hraw:oT Try.prog [] 60 Try.f51 q51 [.agg ⟨[i64 ((n:Int)),.slice al l.length cl]⟩] M [ttV 1 (pt b1 0) M2,ttV 3 (pt b10 0) M11,ttL 5 (.agg ⟨[i64 ((n:Int)),.slice al l.length cl]⟩),ttV 7 (pt ab20 0) M24,ttV 11 (pt b35 0) M36,ttS 13 M47,ttL 15 (.agg ⟨[i64 ((n:Int)),.slice al l.length cl]⟩),ttV 17 (.bool (chkN (n:Int) l)) M59,ttT 18,ttL 22 (i64 ((n:Int))),ttS 26 M72,ttL 28 (.agg ⟨[i64 ((n:Int)),pt ab20 0]⟩),ttS 30 M82] 2=some (.ret,some (pt b10 0),M82,[.eq (abox Try.prog 26 (.agg ⟨[i64 ((n:Int)),.slice al l.length cl]⟩) M) (1,.val (pt b1 0),M2),.eq (aalloc Try.prog 77 M2) (1,.val (pt b10 0),M11),qL 26 b1 0 M11 (.agg ⟨[i64 ((n:Int)),.slice al l.length cl]⟩),qC 73 [.agg ⟨[i64 ((n:Int)),.slice al l.length cl]⟩] M11 (pt ab20 0) M24,.eq (aalloc Try.prog 77 M24) (1,.val (pt b35 0),M36),qS 77 b35 0 (.agg ⟨[i64 0,pt ab20 0]⟩) M36 M47,qL 26 b1 0 M47 (.agg ⟨[i64 ((n:Int)),.slice al l.length cl]⟩),qC 20 [.agg ⟨[i64 ((n:Int)),.slice al l.length cl]⟩] M47 (.bool (chkN (n:Int) l)) M59,qT (chkN (n:Int) l),qL 3 b1 0 M59 (i64 ((n:Int))),qS 3 b35 0 (i64 ((n:Int))) M59 M72,qL 77 b35 0 M72 (.agg ⟨[i64 ((n:Int)),pt ab20 0]⟩),qS 77 b10 0 (.agg ⟨[i64 ((n:Int)),pt ab20 0]⟩) M72 M82]):=by kernel_rfl
 exact⟨.agg ⟨[i64 ((n:Int)),pt ab20 0]⟩,M82,Ev.told_cell noNumP mixedP Try.func51 q51_ok (by kernel_rfl) rK51 (fun B=>sb0 (sbQ 73 Q73 (sbQ 20 Q20 (sbN _)))) (fun _ _=>rfl) hraw (aload_agg (a:=⟨b10,0,none⟩) dA77 dS77 g84 rfl) (hk (q_eq (by rw[←eb3,←em4];kernel_rfl) Nat.one_ne_zero) (hk (q_eq (by rw[←eb12,←em13];kernel_rfl) Nat.one_ne_zero) (hk (lA ⟨dA26,dS26⟩ g17 rfl) (hk (q_call rfl p25 l26 e27) (hk (q_eq (by rw[←eb37,←em38];kernel_rfl) Nat.one_ne_zero) (hk (q_st q48) (hk (lA ⟨dA26,dS26⟩ g55 rfl) (hk (q_call rfl p60 l61 e62) (hk (bT hck) (hk (lC dC3 g68 rfl) (hk (q_st q73) (hk (lA ⟨dA77,dS77⟩ g74 rfl) (hk (q_st q83) hn))))))))))))),X86,hM87,⟨_,rfl,hx_to (R:=pAdj 108) F89 (by intro id hh;simp only [hidden_con] at hh;omega)⟩⟩
abbrev Q51:=FC (asP (as1 pNetN) fun x=>chkN (x.1:Int) x.2=true) (newR (pSight 108)) (fun x=>(x.1,adjM x.1 x.2))
theorem con51{x:Nat×List E4}{lv:List Value}{M:Mem}(hM:MemOk M)(h:(asP (as1 pNetN) fun x:Nat×List E4=>chkN (x.1:Int) x.2=true) x lv M): ∃v M',Con Try.prog [] 51 Q51 lv M v M':=by
 refine FC.con h ?_
 obtain⟨⟨g0,rfl,k0⟩,hck⟩:=h
 obtain⟨n,l⟩:=x
 obtain⟨_,rfl,hl⟩:=k0
 obtain⟨a,c,rfl⟩:=GRowsAt.form hl
 obtain⟨v,M',h1,h2,_,h3⟩:=w20 n a c l hM hl hck
 exact⟨v,M',h1,h2,h3⟩
theorem r24L(b n ab i:Nat)(S:Value)(ad:AdjM){M M0:Mem}(hM:MemOk M)(X0:Ext M0 M)(gb:M.get b=some ⟨[i64 n,pt ab 0],77,2,0,true⟩)(hadj:pAdj 108 ad (pt ab 0) M0)(hok:okA ad)(cc0:(decide (((i:Int))<((n:Int))))=true)(cc1:(linkB ad ((i:Int)))=true): ∃T1 M',Rd Try.prog [] (q53.loopAt 0) Try.f53.ntmps (fr [(1,(pt b 0)),(3,S),(6,(i64 ((n:Int)))),(7,(i64 ((i:Int))))]) M .normal T1 M'∧ [1,3,6,7].map T1.get= [some (pt b 0),some S,some (i64 ((n:Int))),some (i64 (IntKind.wrap .i64 (((i:Int))+(1:Int))))]∧Ext M0 M'∧MemOk M'∧M'.get b=some ⟨[i64 ((n:Int)),pt ab 0],77,2,0,true⟩∧ ∀id k,M.get id=some k→id≠b→M'.get id=some k:=by
 obtain⟨w1,N2,M3,p4,l5,e6,E7,hM8,F9⟩:=call_fc (x:=((n,ad),((i:Int)))) hM con76 (⟨⟨_,_,rfl,⟨_,rfl,AP.Ext (R:=(pAdj 108)) hadj X0⟩,rfl⟩,hok⟩)
 have g11:=E7.old gb
 have ew1:w1=(.bool (linkB ad ((i:Int)))):=F9
 subst ew1
 have X12:=X0.trans E7
 have hraw:oR Try.prog [] 60 Try.f53 (q53.loopAt 0) [(1,(pt b 0)),(3,S),(6,(i64 ((n:Int)))),(7,(i64 ((i:Int))))] M [ttT 2,ttL 8 (.agg ⟨[i64 ((n:Int)),pt ab 0]⟩),ttV 12 (.bool (linkB ad ((i:Int)))) M3,ttF 15] [1,3,6,7]=some (.normal,[some (pt b 0),some S,some (i64 ((n:Int))),some (i64 (IntKind.wrap .i64 (((i:Int))+(1:Int))))],M3,[qT (decide (((i:Int))<((n:Int)))),qL 77 b 0 M (.agg ⟨[i64 ((n:Int)),pt ab 0]⟩),qC 76 [.agg ⟨[i64 ((n:Int)),pt ab 0]⟩,i64 ((i:Int))] M (.bool (linkB ad ((i:Int)))) M3,qF (!(linkB ad ((i:Int))))]):=by kernel_rfl
 have hkp: ∀id k,M.get id=some k→id≠b→M3.get id=some k:=fun id k g h_b=>by
  have g:=E7.old g
  exact g
 obtain⟨T1,h1,h2⟩:=Rd.told noNumP mixedP (fun B=>sb0 (sbQ 76 Q76 (sbN _))) (fun _ _=>rfl) hraw (hk (bT cc0) (hk (lA ⟨dA77,dS77⟩ gb rfl) (hk (q_call rfl p4 l5 e6) (hk (bF (by rw[cc1];rfl)) hn))))
 exact⟨T1,M3,h1,h2,X12,hM8,g11,hkp⟩
theorem r24x(b n i:Nat)(S:Value){M:Mem}(cc0:(decide (((i:Int))<((n:Int))))=false): ∃T1,Rd Try.prog [] (q53.loopAt 0) Try.f53.ntmps (fr [(1,(pt b 0)),(3,S),(6,(i64 ((n:Int)))),(7,(i64 ((i:Int))))]) M (.exit 0) T1 M∧ [3].map T1.get= [some S]:=by
 have hraw:oR Try.prog [] 60 Try.f53 (q53.loopAt 0) [(1,(pt b 0)),(3,S),(6,(i64 ((n:Int)))),(7,(i64 ((i:Int))))] M [ttF 2] [3]=some ((.exit 0),[some S],M,[qF (decide (((i:Int))<((n:Int))))]):=by kernel_rfl
 obtain⟨T1,h1,h2⟩:=Rd.told noNumP mixedP (specs_none Try.prog) (fun _ _=>rfl) hraw (hk (bF cc0) hn)
 exact⟨T1,h1,h2⟩
theorem r24N(b n ab i:Nat)(ad:AdjM){M M0:Mem}(hM:MemOk M)(X0:Ext M0 M)(gb:M.get b=some ⟨[i64 n,pt ab 0],77,2,0,true⟩)(hadj:pAdj 108 ad (pt ab 0) M0)(hok:okA ad)(cc0:(decide (((i:Int))<((n:Int))))=true)(cc1:(linkB ad ((i:Int)))=false): ∃T1 M' b23,Rd Try.prog [] (q53.loopAt 0) Try.f53.ntmps (fr [(1,(pt b 0)),(3,sln),(6,(i64 ((n:Int)))),(7,(i64 ((i:Int))))]) M .normal T1 M'∧ [1,3,6,7].map T1.get= [some (pt b 0),some (sli b23 0 1 1),some (i64 ((n:Int))),some (i64 (IntKind.wrap .i64 (((i:Int))+(1:Int))))]∧Ext M0 M'∧MemOk M'∧M'.get b=some ⟨[i64 ((n:Int)),pt ab 0],77,2,0,true⟩∧M0.next≤b23∧M'.get b23=some ⟨[i64 ((i:Int))],3,1,0,true⟩∧ ∀id k,M.get id=some k→id≠b→M'.get id=some k:=by
 obtain⟨w1,N2,M3,p4,l5,e6,E7,hM8,F9⟩:=call_fc (x:=((n,ad),((i:Int)))) hM con76 (⟨⟨_,_,rfl,⟨_,rfl,AP.Ext (R:=(pAdj 108)) hadj X0⟩,rfl⟩,hok⟩)
 have g11:=E7.old gb
 have ew1:w1=(.bool (linkB ad ((i:Int)))):=F9
 subst ew1
 have X12:=X0.trans E7
 obtain⟨b13,M14,eb15,em16,g17,E18,hM19⟩:=new_t hM8 ⟨[i64 ((i:Int))],3,1,0,true⟩
 have g20:=E18.old g11
 have X22:=X12.trans E18
 obtain⟨b23,M24,eb25,em26,g27,E29,hM28⟩:=new_t hM19 ⟨[i64 ((i:Int))],3,1,0,true⟩
 have nb23:M0.next≤b23:=by rw[←eb25];exact X22.next
 have g30:=E29.old g20
 have X32:=X22.trans E29
 have hraw:oR Try.prog [] 60 Try.f53 (q53.loopAt 0) [(1,(pt b 0)),(3,sln),(6,(i64 ((n:Int)))),(7,(i64 ((i:Int))))] M [ttT 2,ttL 8 (.agg ⟨[i64 ((n:Int)),pt ab 0]⟩),ttV 12 (.bool (linkB ad ((i:Int)))) M3,ttT 15,ttV 21 (sli b13 0 1 2) M14,.at 23 (1,.val (sli b23 0 1 1),M24)] [1,3,6,7]=some (.normal,[some (pt b 0),some (sli b23 0 1 1),some (i64 ((n:Int))),some (i64 (IntKind.wrap .i64 (((i:Int))+(1:Int))))],M24,[qT (decide (((i:Int))<((n:Int)))),qL 77 b 0 M (.agg ⟨[i64 ((n:Int)),pt ab 0]⟩),qC 76 [.agg ⟨[i64 ((n:Int)),pt ab 0]⟩,i64 ((i:Int))] M (.bool (linkB ad ((i:Int)))) M3,qT (!(linkB ad ((i:Int)))),.eq (abuildSlice Try.prog 22 1 [(0,(i64 ((i:Int))))] M3) (1,.val (sli b13 0 1 2),M14),.q (.append [22,22] sln (sli b13 0 1 2) M14) (1,.val (sli b23 0 1 1),M24)]):=by kernel_rfl
 have hkp: ∀id k,M.get id=some k→id≠b→M24.get id=some k:=fun id k g h_b=>by
  have g:=E7.old g
  have g:=E18.old g
  have g:=E29.old g
  exact g
 obtain⟨T1,h1,h2⟩:=Rd.told noNumP mixedP (fun B=>sb0 (sbQ 76 Q76 (sbN _))) (fun _ _=>rfl) hraw (hk (bT cc0) (hk (lA ⟨dA77,dS77⟩ gb rfl) (hk (q_call rfl p4 l5 e6) (hk (bT (by rw[cc1];rfl)) (hk (q_eq (by rw[←eb15,←em16];kernel_rfl) Nat.one_ne_zero) (hk (q_app (by rw[←eb25,←em26];exact append_nil (w:=1) (by kernel_rfl) (by kernel_rfl) (y:=8) (by kernel_rfl) (by decide) (by decide) g17 rfl rfl rfl) Nat.one_ne_zero) hn))))))
 exact⟨T1,M24,b23,h1,h2,X32,hM28,g30,nb23,g27,hkp⟩
theorem r24G(b n ab i:Nat)(ad:AdjM)(r k:Nat)(cr:List Value){M M0:Mem}(hM:MemOk M)(X0:Ext M0 M)(gb:M.get b=some ⟨[i64 n,pt ab 0],77,2,0,true⟩)(hadj:pAdj 108 ad (pt ab 0) M0)(hok:okA ad)(hr:M0.next≤r)(gr:M.get r=some ⟨cr,3,1,0,true⟩)(hbr:b≠r)(cc0:(decide (((i:Int))<((n:Int))))=true)(cc1:(linkB ad ((i:Int)))=false)(hg0:k<1073741824∧(cr).length=k*1): ∃T1 M' b27,Rd Try.prog [] (q53.loopAt 0) Try.f53.ntmps (fr [(1,(pt b 0)),(3,(sli r 0 k k)),(6,(i64 ((n:Int)))),(7,(i64 ((i:Int))))]) M .normal T1 M'∧ [1,3,6,7].map T1.get= [some (pt b 0),some (sli b27 0 (k+1) (k+1)),some (i64 ((n:Int))),some (i64 (IntKind.wrap .i64 (((i:Int))+(1:Int))))]∧Ext M0 M'∧MemOk M'∧M'.get b=some ⟨[i64 ((n:Int)),pt ab 0],77,2,0,true⟩∧M0.next≤b27∧M'.get b27=some ⟨cr++ [i64 ((i:Int))],3,1,0,true⟩∧ ∀id k,M.get id=some k→id≠b→id≠r→M'.get id=some k:=by
 obtain⟨w1,N2,M3,p4,l5,e6,E7,hM8,F9⟩:=call_fc (x:=((n,ad),((i:Int)))) hM con76 (⟨⟨_,_,rfl,⟨_,rfl,AP.Ext (R:=(pAdj 108)) hadj X0⟩,rfl⟩,hok⟩)
 have g11:=E7.old gb
 have g12:=E7.old gr
 have ew1:w1=(.bool (linkB ad ((i:Int)))):=F9
 subst ew1
 have X13:=X0.trans E7
 obtain⟨b14,M15,eb16,em17,g18,E19,hM20⟩:=new_t hM8 ⟨[i64 ((i:Int))],3,1,0,true⟩
 have g21:=E19.old g11
 have g22:=E19.old g12
 have X24:=X13.trans E19
 obtain⟨b27,M28,eb29,em30,g31,X26,hM32,kp25⟩:=grow_t X24 hr hM20 ⟨cr++ [i64 ((i:Int))],3,1,0,true⟩
 have nb27:M0.next≤b27:=by rw[←eb29];exact X24.next
 have g33:=(kp25 _ hbr (Mem.lt_of_get g21)).trans g21
 have hraw:oR Try.prog [] 60 Try.f53 (q53.loopAt 0) [(1,(pt b 0)),(3,(sli r 0 k k)),(6,(i64 ((n:Int)))),(7,(i64 ((i:Int))))] M [ttT 2,ttL 8 (.agg ⟨[i64 ((n:Int)),pt ab 0]⟩),ttV 12 (.bool (linkB ad ((i:Int)))) M3,ttT 15,ttV 21 (sli b14 0 1 2) M15,.at 23 (2,.val (sli b27 0 (k+1) (k+1)),M28)] [1,3,6,7]=some (.normal,[some (pt b 0),some (sli b27 0 (k+1) (k+1)),some (i64 ((n:Int))),some (i64 (IntKind.wrap .i64 (((i:Int))+(1:Int))))],M28,[qT (decide (((i:Int))<((n:Int)))),qL 77 b 0 M (.agg ⟨[i64 ((n:Int)),pt ab 0]⟩),qC 76 [.agg ⟨[i64 ((n:Int)),pt ab 0]⟩,i64 ((i:Int))] M (.bool (linkB ad ((i:Int)))) M3,qT (!(linkB ad ((i:Int)))),.eq (abuildSlice Try.prog 22 1 [(0,(i64 ((i:Int))))] M3) (1,.val (sli b14 0 1 2),M15),.q (.append [22,22] (sli r 0 k k) (sli b14 0 1 2) M15) (2,.val (sli b27 0 (k+1) (k+1)),M28)]):=by kernel_rfl
 have hkp: ∀id k,M.get id=some k→id≠b→id≠r→M28.get id=some k:=fun id k g h_b h_r=>by
  have g:=E7.old g
  have g:=E19.old g
  have g:=(kp25 id h_r (Mem.lt_of_get g)).trans g
  exact g
 obtain⟨T1,h1,h2⟩:=Rd.told noNumP mixedP (fun B=>sb0 (sbQ 76 Q76 (sbN _))) (fun _ _=>rfl) hraw (hk (bT cc0) (hk (lA ⟨dA77,dS77⟩ gb rfl) (hk (q_call rfl p4 l5 e6) (hk (bT (by rw[cc1];rfl)) (hk (q_eq (by rw[←eb16,←em17];kernel_rfl) Nat.one_ne_zero) (hk (q_app (by rw[←eb29,←em30];exact append_more (w:=1) (by kernel_rfl) (by kernel_rfl) (by kernel_rfl) (y:=8) (by kernel_rfl) (by decide) (by decide) hg0.1 g18 rfl rfl rfl g22 hg0.2 rfl rfl rfl rfl) (Nat.succ_ne_zero _)) hn))))))
 exact⟨T1,M28,b27,h1,h2,X26,hM32,g33,nb27,g31,hkp⟩
theorem loop24{b n ab:Nat}{ad:AdjM}{M:Mem}(hM:MemOk M)(gb:M.get b=some ⟨[i64 n,pt ab 0],77,2,0,true⟩)(hadj:pAdj 108 ad (pt ab 0) M)(hok:okA ad)(hn:n≤60):
  ∃S M',LoopR Try.prog [] (q53.loopAt 0) Try.f53.ntmps (fr [(1,pt b 0),(3,sln),(6,i64 n),(7,i64 ((0:Nat):Int))]) M (.exit 0) (fr [(3,S)]) M'∧Ext M M'∧MemOk M'∧AccI M M' S (othersTo ad n):=by
 have hb:=Mem.lt_of_get gb
 obtain⟨S,M',h1,h2,h3,_,h4⟩:=LoopR.for (P:=Try.prog) (GL:= []) (b:=q53.loopAt 0) (nt:=Try.f53.ntmps) (id:=0) (σ:=Value) (n:=n) (Inv:=fun i S M1=>Ext M M1∧MemOk M1∧M1.get b=some ⟨[i64 n,pt ab 0],77,2,0,true⟩∧AccI M M1 S (othersTo ad i))
  (F:=fun i S=> [(1,pt b 0),(3,S),(6,i64 n),(7,i64 ((i:Nat):Int))])
  (O:=fun S=> [(3,S)])
  (by
   rintro i S M1 hi ⟨X1,hM1,hg1,hA⟩
   cases hl:linkB ad (i:Int) with
   |true=>
    obtain⟨T1,M2,h1,h2,h3,h4,h5,h6⟩:=r24L b n ab i S ad hM1 X1 hg1 hadj hok (decide_eq_true (by omega)) hl
    rw[wrap_succ (by omega)] at h2
    refine⟨S,T1,M2,h1,h2,h3,h4,h5,?_⟩
    rw[othersTo_succ,hl,if_pos rfl,List.append_nil]
    exact hA.keep fun id k hid hg=>h6 id k hg (by omega)
   |false=>
    rw[othersTo_succ,hl,if_neg (by decide)]
    have hlen:=othersTo_len ad i
    rcases hA with⟨rfl,h0⟩|⟨r,rfl,h0,hr,hg⟩
    ·obtain⟨T1,M2,b2,h1,h2,h3,h4,h5,h6,h7,_⟩:=r24N b n ab i ad hM1 X1 hg1 hadj hok (decide_eq_true (by omega)) hl
     rw[wrap_succ (by omega)] at h2
     exact⟨_,T1,M2,h1,h2,h3,h4,h5,.inr ⟨b2,by rw[h0];rfl,by simp,h6,by rw[h7,h0];rfl⟩⟩
    ·obtain⟨T1,M2,b2,h1,h2,h3,h4,h5,h6,h7,_⟩:=r24G b n ab i ad r (othersTo ad i).length _ hM1 X1 hg1 hadj hok hr hg (by omega) (decide_eq_true (by omega)) hl ⟨by omega,by simp⟩
     rw[wrap_succ (by omega)] at h2
     exact⟨_,T1,M2,h1,h2,h3,h4,h5,.inr ⟨b2,by rw[List.length_append];rfl,by simp,h6,by rw[h7,List.map_append];rfl⟩⟩)
  (by
   rintro S M1 ⟨X1,hM1,_⟩
   exact r24x b n n S (M:=M1) (decide_eq_false (by omega)))
  n 0 (by omega) (s:=sln) (M:=M) ⟨Ext.refl M,hM,gb,.inl ⟨rfl,rfl⟩⟩
 exact⟨S,M',h1,h2,h3,h4⟩
theorem rK53:Try.f53.results= #[.tmp 2]:=by kernel_rfl
theorem w24(n ab:Nat)(ad:AdjM){M:Mem}(hM:MemOk M)(hadj:pAdj 108 ad (pt ab 0) M)(hok:okA ad)(hn0:n≤60): ∃v_ M',Ev Try.prog [] 53 [.agg ⟨[i64 ((n:Int)),pt ab 0]⟩] M v_ M'∧Ext M M'∧MemOk M'∧newR pInts (othersTo ad n) M.next v_ M':=by
 obtain⟨b1,M2,eb3,em4,g5,E6,hM7⟩:=new_t hM ⟨[i64 ((n:Int)),pt ab 0],77,2,0,true⟩
 have X9:=(Ext.refl M).trans E6
 obtain⟨S10,M12,hL13,E14,hM15,A11⟩:=loop24 hM7 g5 (AP.Ext (R:=(pAdj 108)) hadj X9) hok hn0
 have X18:=X9.trans E14
 have hraw:oT Try.prog [0] 60 Try.f53 q53 [.agg ⟨[i64 ((n:Int)),pt ab 0]⟩] M [ttV 1 (pt b1 0) M2,ttL 9 (i64 ((n:Int))),.blk 12 [1,3,6,7] .normal (fr [(3,S10)]) M12] 2=some (.ret,some S10,M12,[.eq (abox Try.prog 77 (.agg ⟨[i64 ((n:Int)),pt ab 0]⟩) M) (1,.val (pt b1 0),M2),qL 3 b1 0 M2 (i64 ((n:Int))),.blk 0 (.loop (q53.loopAt 0)) Try.f53.ntmps [1,3,6,7] [some (pt b1 0),some sln,some (i64 ((n:Int))),some (i64 0)] M2 .normal (fr [(3,S10)]) M12]):=by kernel_rfl
 exact⟨S10,M12,Ev.told_tmp noNumP mixedP Try.func53 q53_ok (by kernel_rfl) rK53 (fun B=>sb1 (sbN B) 0 hL13) (fun _ h=>blksF_one h) hraw (hk (q_eq (by rw[←eb3,←em4];kernel_rfl) Nat.one_ne_zero) (hk (lC dC3 g5 rfl) (hk (q_blk rfl) hn))),X18,hM15,AccI.new A11 (Nat.le_trans (othersTo_len ad n) (by omega)) (X9).next⟩
abbrev Q53:=FC (asP (as1 (pSight 108)) fun x=>okA x.2∧x.1≤60) (newR pInts) (fun x=>othersTo x.2 x.1)
theorem con53{x:Nat×AdjM}{lv:List Value}{M:Mem}(hM:MemOk M)(h:(asP (as1 (pSight 108)) fun x:Nat×AdjM=>okA x.2∧x.1≤60) x lv M): ∃v M',Con Try.prog [] 53 Q53 lv M v M':=by
 refine FC.con h ?_
 obtain⟨⟨g0,rfl,k0⟩,hok,hn⟩:=h
 obtain⟨n,ad⟩:=x
 obtain⟨p,rfl,hadj⟩:=k0
 obtain⟨ab,o,i_,t,s,rfl,gab,hout,hinn,hto,hset⟩:=id hadj
 obtain⟨v',M',h1,h2,_,h3⟩:=w24 n ab ad hM hadj hok hn
 exact⟨v',M',h1,h2,h3⟩
theorem r31(C n ab bb o m c i:Nat)(x z:Int)(cc:List Value)(ad:AdjM){M M0:Mem}(hM:MemOk M)(X0:Ext M0 M)(hC:M0.next≤C)(gC:M.get C=some ⟨cc,3,1,0,true⟩)(hadj:pAdj 108 ad (pt ab 0) M0)(hok:okA ad)(cc0:(decide (((i:Int))<((m:Int))))=true)(hld0:aload Try.prog 3 ⟨bb,o+((i:Int):Int).toNat*1,none⟩ M0=some (i64 x))(hi1:0≤(((endsN ad x:Nat):Int):Int)∧(((endsN ad x:Nat):Int):Int)<801)(hc2:(cc)[0+(((endsN ad x:Nat):Int):Int).toNat*1]?=some (i64 z))(hof3:0+(((endsN ad x:Nat):Int):Int).toNat*1+1≤(cc).length): ∃T1 M',Rd Try.prog [] (q75.loopAt 0) Try.f75.ntmps (fr [(1,(.func (.func 54) ⟨[.agg ⟨[i64 ((n:Int)),pt ab 0]⟩]⟩ ⟨[]⟩)),(5,(sli C 0 801 802)),(9,(sli bb o m c)),(10,(i64 ((m:Int)))),(11,(i64 ((i:Int))))]) M .normal T1 M'∧ [1,5,9,10,11].map T1.get= [some (.func (.func 54) ⟨[.agg ⟨[i64 ((n:Int)),pt ab 0]⟩]⟩ ⟨[]⟩),some (sli C 0 801 802),some (sli bb o m c),some (i64 ((m:Int))),some (i64 (IntKind.wrap .i64 (((i:Int))+(1:Int))))]∧Ext M0 M'∧MemOk M'∧M'.get C=some ⟨splice cc (0+(((endsN ad x:Nat):Int):Int).toNat*1) [i64 (IntKind.wrap .i64 (z+(1:Int)))],3,1,0,true⟩∧ ∀id k,M.get id=some k→id≠C→M'.get id=some k:=by
 obtain⟨w1,N2,M3,p4,l5,e6,E7,hM8,F9⟩:=call_fc (x:=((n,ad),x)) hM con54 (⟨⟨_,_,rfl,⟨_,rfl,AP.Ext (R:=(pAdj 108)) hadj X0⟩,rfl⟩,hok⟩)
 have g11:=E7.old gC
 have ew1:w1=(i64 (((endsN ad x:Nat):Int))):=F9
 subst ew1
 have X12:=X0.trans E7
 obtain⟨M13,q14,g15,kp16,X17,hM18,nx19⟩:=store_t (o:=0+(((endsN ad x:Nat):Int):Int).toNat*1) (v:=(i64 (IntKind.wrap .i64 (z+(1:Int))))) (new:=splice cc (0+(((endsN ad x:Nat):Int):Int).toNat*1) [i64 (IntKind.wrap .i64 (z+(1:Int)))]) X12 hC hM8 dS3 g11 rfl rfl (Nat.zero_le _) hof3 rfl
 replace g15:M13.get C=some ⟨splice cc (0+(((endsN ad x:Nat):Int):Int).toNat*1) [i64 (IntKind.wrap .i64 (z+(1:Int)))],3,1,0,true⟩:=g15
 have hraw:oR Try.prog [] 60 Try.f75 (q75.loopAt 0) [(1,(.func (.func 54) ⟨[.agg ⟨[i64 ((n:Int)),pt ab 0]⟩]⟩ ⟨[]⟩)),(5,(sli C 0 801 802)),(9,(sli bb o m c)),(10,(i64 ((m:Int)))),(11,(i64 ((i:Int))))] M [ttT 2,ttT 4,ttL 6 (i64 x),ttV 16 (i64 (((endsN ad x:Nat):Int))) M3,ttT 18,ttL 20 (i64 z),ttT 24,ttS 26 M13] [1,5,9,10,11]=some (.normal,[some (.func (.func 54) ⟨[.agg ⟨[i64 ((n:Int)),pt ab 0]⟩]⟩ ⟨[]⟩),some (sli C 0 801 802),some (sli bb o m c),some (i64 ((m:Int))),some (i64 (IntKind.wrap .i64 (((i:Int))+(1:Int))))],M13,[qT (decide (((i:Int))<((m:Int)))),.q (.inb ((i:Int)) m) (ansB true),qL 3 bb (o+((i:Int):Int).toNat*1) M (i64 x),qC 54 [.agg ⟨[i64 ((n:Int)),pt ab 0]⟩,i64 x] M (i64 (((endsN ad x:Nat):Int))) M3,.q (.inb (((endsN ad x:Nat):Int)) 801) (ansB true),qL 3 C (0+(((endsN ad x:Nat):Int):Int).toNat*1) M3 (i64 z),.q (.inb (((endsN ad x:Nat):Int)) 801) (ansB true),qS 3 C (0+(((endsN ad x:Nat):Int):Int).toNat*1) (i64 (IntKind.wrap .i64 (z+(1:Int)))) M3 M13]):=by kernel_rfl
 have hkp: ∀id k,M.get id=some k→id≠C→M13.get id=some k:=fun id k g h_C=>by
  have g:=E7.old g
  have g:=((fun id h _=>kp16 id h) id h_C (Mem.lt_of_get g)).trans g
  exact g
 obtain⟨T1,h1,h2⟩:=Rd.told noNumP mixedP (fun B=>sb0 (sbQ 54 Q54 (sbN _))) (fun _ _=>rfl) hraw (hk (bT cc0) (hk (q_inb (by omega) (by simp at cc0;omega)) (hk (q_ld (aload_ext X0 hld0)) (hk (q_call rfl p4 l5 e6) (hk (q_inb hi1.1 hi1.2) (hk (q_ld (aload_cell (a:=⟨C,0+(((endsN ad x:Nat):Int):Int).toNat*1,none⟩) dC3 g11 hc2)) (hk (q_inb hi1.1 hi1.2) (hk (q_st q14) hn))))))))
 exact⟨T1,M13,h1,h2,X17,hM18,g15,hkp⟩
theorem r31x(C n ab:Nat)(a:Option Addr)(m c i:Nat){M:Mem}(cc0:(decide (((i:Int))<((m:Int))))=false): ∃T1,Rd Try.prog [] (q75.loopAt 0) Try.f75.ntmps (fr [(1,(.func (.func 54) ⟨[.agg ⟨[i64 ((n:Int)),pt ab 0]⟩]⟩ ⟨[]⟩)),(5,(sli C 0 801 802)),(9,(.slice a m c)),(10,(i64 ((m:Int)))),(11,(i64 ((i:Int))))]) M (.exit 0) T1 M∧ [5].map T1.get= [some (sli C 0 801 802)]:=by
 have hraw:oR Try.prog [] 60 Try.f75 (q75.loopAt 0) [(1,(.func (.func 54) ⟨[.agg ⟨[i64 ((n:Int)),pt ab 0]⟩]⟩ ⟨[]⟩)),(5,(sli C 0 801 802)),(9,(.slice a m c)),(10,(i64 ((m:Int)))),(11,(i64 ((i:Int))))] M [ttF 2] [5]=some ((.exit 0),[some (sli C 0 801 802)],M,[qF (decide (((i:Int))<((m:Int))))]):=by kernel_rfl
 obtain⟨T1,h1,h2⟩:=Rd.told noNumP mixedP (specs_none Try.prog) (fun _ _=>rfl) hraw (hk (bF cc0) hn)
 exact⟨T1,h1,h2⟩
theorem loop31{a:Option Addr}{c C n ab:Nat}{ad:AdjM}{vs:List Int}{M0 M:Mem}(hM:MemOk M)(X:Ext M0 M)(hs:pInts vs (.slice a vs.length c) M0)(hadj:pAdj 108 ad (pt ab 0) M0)(hok:okA ad)(hl:vs.length≤60)(hC:M0.next≤C)(gC:M.get C=some ⟨List.replicate 801 (i64 0),3,1,0,true⟩):
  ∃M',LoopR Try.prog [] (q75.loopAt 0) Try.f75.ntmps (fr [(1,(.func (.func 54) ⟨[.agg ⟨[i64 ((n:Int)),pt ab 0]⟩]⟩ ⟨[]⟩)),(5,sli C 0 801 802),(9,.slice a vs.length c),(10,i64 vs.length),(11,i64 ((0:Nat):Int))]) M (.exit 0) (fr [(5,sli C 0 801 802)]) M'∧Ext M0 M'∧MemOk M'∧M'.get C=some ⟨cntCells (keyV ad vs) vs.length 801,3,1,0,true⟩:=by
 obtain⟨_,M',h1,h2,h3,h4⟩:=LoopR.for (P:=Try.prog) (GL:= []) (b:=q75.loopAt 0) (nt:=Try.f75.ntmps) (id:=0) (σ:=Unit) (n:=vs.length) (Inv:=fun i _ M1=>Ext M0 M1∧MemOk M1∧M1.get C=some ⟨cntCells (keyV ad vs) i 801,3,1,0,true⟩)
  (F:=fun i _=> [(1,(.func (.func 54) ⟨[.agg ⟨[i64 ((n:Int)),pt ab 0]⟩]⟩ ⟨[]⟩)),(5,sli C 0 801 802),(9,.slice a vs.length c),(10,i64 vs.length),(11,i64 ((i:Nat):Int))])
  (O:=fun _=> [(5,sli C 0 801 802)])
  (by
   rintro i _ M1 hi ⟨X1,hM1,hg1⟩
   obtain⟨bb,o,rfl,_⟩:=form_pos hs (by omega)
   have ht:vs[i]?=some vs[i]:=List.getElem?_eq_getElem hi
   have hk:endsN ad vs[i]=keyV ad vs i:=by unfold keyV;rw[ht];rfl
   have hle:=endsN_le hok vs[i]
   have e0:0+(((endsN ad vs[i]:Nat):Int):Int).toNat*1=keyV ad vs i:=by rw[hk];simp
   obtain⟨T1,M2,h1,h2,h3,h4,h5,_⟩:=r31 C n ab bb o vs.length c i vs[i] ((cnt (keyV ad vs) i (keyV ad vs i):Nat):Int) _ ad hM1 X1 hC hg1 hadj hok (decide_eq_true (by omega)) (ld_one (P:=Try.prog) (ty:=3) hs ht rfl dC3) (by omega) (by rw[e0];exact cntCells_get _ _ (by omega)) (by rw[e0,cntCells_len];omega)
   rw[wrap_succ (by omega)] at h2
   have hc:=cnt_le (keyV ad vs) i (keyV ad vs i)
   rw[e0,wrap_succ (by omega),cntCells_step _ (by omega)] at h5
   exact⟨(),T1,M2,h1,h2,h3,h4,h5⟩)
  (by
   rintro _ M1 ⟨X1,hM1,hg1⟩
   exact r31x C n ab a vs.length c vs.length (M:=M1) (decide_eq_false (by omega)))
  vs.length 0 (by omega) (s:=()) (M:=M) ⟨X,hM,by rw[cntCells_zero];exact gC⟩
 exact⟨M',h1,h2,h3,h4⟩
theorem rK75:Try.f75.results= #[.tmp 4]:=by kernel_rfl
theorem w31(n ab:Nat)(ad:AdjM)(av:Option Addr)(cv:Nat)(vs:List Int){M:Mem}(hM:MemOk M)(hvs:pInts vs (.slice av vs.length cv) M)(hadj:pAdj 108 ad (pt ab 0) M)(hok:okA ad)(hl60:vs.length≤60): ∃v_ M',Ev Try.prog [] 75 [.slice av vs.length cv,.func (.func 54) ⟨[.agg ⟨[i64 ((n:Int)),pt ab 0]⟩]⟩ ⟨[]⟩] M v_ M'∧Ext M M'∧MemOk M'∧newR pNats (tallyN ad vs) M.next v_ M':=by
 obtain⟨b1,M2,eb3,em4,g5,E6,hM7⟩:=mks_t (P:=Try.prog) (t:=22) (elem:=3) (z:=(i64 0)) (n:=801) hM (by kernel_rfl) (by kernel_rfl) (by decide)
 have nb1:M.next≤b1:=by rw[←eb3];exact(Ext.refl M).next
 have X8:=(Ext.refl M).trans E6
 obtain⟨M9,hL10,X11,hM12,g13⟩:=loop31 hM7 X8 hvs hadj hok hl60 nb1 g5
 have hraw:oT Try.prog [0] 60 Try.f75 q75 [.slice av vs.length cv,.func (.func 54) ⟨[.agg ⟨[i64 ((n:Int)),pt ab 0]⟩]⟩ ⟨[]⟩] M [ttV 3 (sli b1 0 801 802) M2,ttT 9,.blk 12 [1,5,9,10,11] .normal (fr [(5,(sli b1 0 801 802))]) M9] 4=some (.ret,some (sli b1 0 801 802),M9,[.eq (amakeSlice Try.prog 22 (i64 801) (i64 801) M) (1,.val (sli b1 0 801 802),M2),.ln av vs.length cv,.blk 0 (.loop (q75.loopAt 0)) Try.f75.ntmps [1,5,9,10,11] [some (.func (.func 54) ⟨[.agg ⟨[i64 ((n:Int)),pt ab 0]⟩]⟩ ⟨[]⟩),some (sli b1 0 801 802),some (.slice av vs.length cv),some (i64 ((vs.length:Int))),some (i64 0)] M2 .normal (fr [(5,(sli b1 0 801 802))]) M9]):=by kernel_rfl
 exact⟨sli b1 0 801 802,M9,Ev.told_tmp noNumP mixedP Try.func75 q75_ok (by kernel_rfl) rK75 (fun B=>sb1 (sbN B) 0 hL10) (fun _ h=>blksF_one h) hraw (hk (q_eq em4 Nat.one_ne_zero) (hk (lN hvs.ln) (hk (q_blk rfl) hn))),X11,hM12,GRowsAt.of_blk' (b:=b1) (w:=1) (g:=iRow) (hid_of nb1 g13) (by simp [tallyN]) (by simp [tallyN,cntCells,flat1,List.map_map,Function.comp_def]) (fun _ _=>rfl) (by simp [tallyN])⟩
abbrev Q75:=FC (asP (as2 pInts (pCount 54 108)) fun x=>okA x.2.2∧x.1.length≤60) (newR pNats) (fun x=>tallyN x.2.2 x.1)
theorem con75{x:List Int×Nat×AdjM}{lv:List Value}{M:Mem}(hM:MemOk M)(h:(asP (as2 pInts (pCount 54 108)) fun x:List Int×Nat×AdjM=>okA x.2.2∧x.1.length≤60) x lv M): ∃v M',Con Try.prog [] 75 Q75 lv M v M':=by
 refine FC.con h ?_
 obtain⟨⟨g0,g1,rfl,k0,k1⟩,hok,hl⟩:=h
 obtain⟨vs,n,ad⟩:=x
 obtain⟨av,cv,rfl⟩:=GRowsAt.form k0
 obtain⟨s,rfl,p,rfl,hadj⟩:=k1
 obtain⟨ab,o,i_,t,s,rfl,gab,hout,hinn,hto,hset⟩:=id hadj
 obtain⟨v',M',h1,h2,_,h3⟩:=w31 n ab ad av cv vs hM k0 hadj hok hl
 exact⟨v',M',h1,h2,h3⟩
theorem r30(D E bb o m c i k q z:Nat)(cd ce:List Value){M M0:Mem}(hM:MemOk M)(X0:Ext M0 M)(hE:M0.next≤E)(gD:M.get D=some ⟨cd,3,1,0,true⟩)(gE:M.get E=some ⟨ce,22,1,0,true⟩)(dDE:D≠E)(cc0:(decide (((i:Int))<((m:Int))))=true)(hld0:aload Try.prog 3 ⟨bb,o+((i:Int):Int).toNat*1,none⟩ M0=some (i64 ((z:Int))))(hs1:q≤((q+z))∧((q+z))≤k)(he2:(IntKind.wrap .i64 (((q:Int))+((z:Int))))=((((q+z)):Nat):Int))(hof3:0+((i:Int):Int).toNat*1+1≤(ce).length): ∃T1 M',Rd Try.prog [] (q74.loopAt 0) Try.f74.ntmps (fr [(0,(sli D 0 k (k+1))),(5,(sli E 0 m (m+1))),(6,(i64 ((q:Int)))),(12,(sli bb o m c)),(13,(i64 ((m:Int)))),(14,(i64 ((i:Int))))]) M .normal T1 M'∧ [0,5,6,12,13,14].map T1.get= [some (sli D 0 k (k+1)),some (sli E 0 m (m+1)),some (i64 (IntKind.wrap .i64 (((q:Int))+((z:Int))))),some (sli bb o m c),some (i64 ((m:Int))),some (i64 (IntKind.wrap .i64 (((i:Int))+(1:Int))))]∧Ext M0 M'∧MemOk M'∧M'.get D=some ⟨cd,3,1,0,true⟩∧M'.get E=some ⟨splice ce (0+((i:Int):Int).toNat*1) [sli D (0+q) 0 (((q+z))-q+1)],22,1,0,true⟩∧ ∀id k,M.get id=some k→id≠D→id≠E→M'.get id=some k:=by
 obtain⟨M1,q2,g3,kp4,X5,hM6,nx7⟩:=store_t (o:=0+((i:Int):Int).toNat*1) (v:=(sli D (0+q) 0 (((q+z))-q+1))) (new:=splice ce (0+((i:Int):Int).toNat*1) [sli D (0+q) 0 (((q+z))-q+1)]) X0 hE hM dS22 gE rfl rfl (Nat.zero_le _) hof3 rfl
 replace g3:M1.get E=some ⟨splice ce (0+((i:Int):Int).toNat*1) [sli D (0+q) 0 (((q+z))-q+1)],22,1,0,true⟩:=g3
 have g8:=(kp4 _ dDE).trans gD
 have hraw:oR Try.prog [] 60 Try.f74 (q74.loopAt 0) [(0,(sli D 0 k (k+1))),(5,(sli E 0 m (m+1))),(6,(i64 ((q:Int)))),(12,(sli bb o m c)),(13,(i64 ((m:Int)))),(14,(i64 ((i:Int))))] M [ttT 2,ttT 6,ttL 8 (i64 ((z:Int))),ttL 30 (sli D (0+q) 0 (((q+z))-q+1)),ttT 32,ttS 34 M1] [0,5,6,12,13,14]=some (.normal,[some (sli D 0 k (k+1)),some (sli E 0 m (m+1)),some (i64 (IntKind.wrap .i64 (((q:Int))+((z:Int))))),some (sli bb o m c),some (i64 ((m:Int))),some (i64 (IntKind.wrap .i64 (((i:Int))+(1:Int))))],M1,[qT (decide (((i:Int))<((m:Int)))),.q (.inb ((i:Int)) m) (ansB true),qL 3 bb (o+((i:Int):Int).toNat*1) M (i64 ((z:Int))),.q (.slice 22 (sli D 0 k (k+1)) (some (i64 ((q:Int)))) (some (i64 ((q:Int)))) (some (i64 (IntKind.wrap .i64 (((q:Int))+((z:Int)))))) M) (1,.val (sli D (0+q) 0 (((q+z))-q+1)),noMem),.q (.inb ((i:Int)) m) (ansB true),qS 22 E (0+((i:Int):Int).toNat*1) (sli D (0+q) 0 (((q+z))-q+1)) M M1]):=by kernel_rfl
 have hkp: ∀id k,M.get id=some k→id≠D→id≠E→M1.get id=some k:=fun id k g h_D h_E=>by
  have g:=((fun id h _=>kp4 id h) id h_E (Mem.lt_of_get g)).trans g
  exact g
 obtain⟨T1,h1,h2⟩:=Rd.told noNumP mixedP (specs_none Try.prog) (fun _ _=>rfl) hraw (hk (bT cc0) (hk (q_inb (by omega) (by simp at cc0;omega)) (hk (q_ld (aload_ext X0 hld0)) (hk (⟨_,rfl,(by rw[he2];exact slice3_t (by kernel_rfl) (elem:=3) (by kernel_rfl) gD rfl hs1.1 hs1.2)⟩) (hk (q_inb (by omega) (by simp at cc0;omega)) (hk (q_st q2) hn))))))
 exact⟨T1,M1,h1,h2,X5,hM6,g8,g3,hkp⟩
theorem r30x(D E:Nat)(a:Option Addr)(m c i k q:Nat){M:Mem}(cc0:(decide (((i:Int))<((m:Int))))=false): ∃T1,Rd Try.prog [] (q74.loopAt 0) Try.f74.ntmps (fr [(0,(sli D 0 k (k+1))),(5,(sli E 0 m (m+1))),(6,(i64 ((q:Int)))),(12,(.slice a m c)),(13,(i64 ((m:Int)))),(14,(i64 ((i:Int))))]) M (.exit 0) T1 M∧ [5].map T1.get= [some (sli E 0 m (m+1))]:=by
 have hraw:oR Try.prog [] 60 Try.f74 (q74.loopAt 0) [(0,(sli D 0 k (k+1))),(5,(sli E 0 m (m+1))),(6,(i64 ((q:Int)))),(12,(.slice a m c)),(13,(i64 ((m:Int)))),(14,(i64 ((i:Int))))] M [ttF 2] [5]=some ((.exit 0),[some (sli E 0 m (m+1))],M,[qF (decide (((i:Int))<((m:Int))))]):=by kernel_rfl
 obtain⟨T1,h1,h2⟩:=Rd.told noNumP mixedP (specs_none Try.prog) (fun _ _=>rfl) hraw (hk (bF cc0) hn)
 exact⟨T1,h1,h2⟩
theorem loop30{a:Option Addr}{c D E k:Nat}{sz:List Nat}{cd:List Value}{M0 M:Mem}(hM:MemOk M)(X:Ext M0 M)(hs:pNats sz (.slice a sz.length c) M0)(hl:sz.length≤801)(hk:offS (cOf sz) sz.length≤k)(hk60:k≤60)(hE:M0.next≤E)(gD:M.get D=some ⟨cd,3,1,0,true⟩)(gE:M.get E=some ⟨List.replicate sz.length sln,22,1,0,true⟩)(dDE:D≠E):
  ∃M',LoopR Try.prog [] (q74.loopAt 0) Try.f74.ntmps (fr [(0,sli D 0 k (k+1)),(5,sli E 0 sz.length (sz.length+1)),(6,i64 ((0:Nat):Int)),(12,.slice a sz.length c),(13,i64 sz.length),(14,i64 ((0:Nat):Int))]) M (.exit 0) (fr [(5,sli E 0 sz.length (sz.length+1))]) M'∧Ext M0 M'∧MemOk M'∧M'.get E=some ⟨rowCells D (cOf sz) (fun _=>0) sz.length,22,1,0,true⟩:=by
 have hxl:=rowCells_len D (cOf sz) (fun _=>0) sz.length
 obtain⟨_,M',h1,h2,h3,_,h6⟩:=LoopR.for (P:=Try.prog) (GL:= []) (b:=q74.loopAt 0) (nt:=Try.f74.ntmps) (id:=0) (σ:=Unit) (n:=sz.length) (Inv:=fun i _ M1=>Ext M0 M1∧MemOk M1∧M1.get D=some ⟨cd,3,1,0,true⟩∧M1.get E=some ⟨fillS (rowCells D (cOf sz) (fun _=>0) sz.length) i sln,22,1,0,true⟩)
  (F:=fun i _=> [(0,sli D 0 k (k+1)),(5,sli E 0 sz.length (sz.length+1)),(6,i64 ((offS (cOf sz) i:Nat):Int)),(12,.slice a sz.length c),(13,i64 sz.length),(14,i64 ((i:Nat):Int))])
  (O:=fun _=> [(5,sli E 0 sz.length (sz.length+1))])
  (by
   rintro i _ M1 hi ⟨X1,hM1,hg2,hg3⟩
   have hs':pInts (sz.map fun k=>((k:Nat):Int)) (.slice a sz.length c) M0:=hs
   obtain⟨bb,o,rfl,_⟩:=form_pos hs' (by simp;omega)
   have hnx:=offS_next (cOf sz) hi
   have hz:(sz.map fun k=>((k:Nat):Int))[i]?=some ((cOf sz i:Nat):Int):=by simp [cOf,hi]
   have e0:0+((i:Int):Int).toNat*1=i:=by simp
   have ew:=wrap_add (i:=offS (cOf sz) i) (j:=cOf sz i) (by omega)
   obtain⟨T1,M2,h1,h2,h3,h4,h6,h7,_⟩:=r30 D E bb o sz.length c i k (offS (cOf sz) i) (cOf sz i) _ _ hM1 X1 hE hg2 hg3 dDE (decide_eq_true (by omega)) (ld_one (P:=Try.prog) (ty:=3) hs' hz rfl dC3) ⟨by omega,by omega⟩ ew (by rw[e0,fillS_len _ _ (by omega)];omega)
   rw[wrap_succ (by omega),ew] at h2
   have hst:=fillS_step (z:=sln) (rowCells_get D (cOf sz) (fun _=>0) hi)
   simp only [cellR] at hst
   rw[e0,Nat.zero_add,Nat.add_sub_cancel_left,hst] at h7
   exact⟨(),T1,M2,h1,h2,h3,h4,h6,h7⟩)
  (by
   rintro _ M1 ⟨X1,hM1,_⟩
   exact r30x D E a sz.length c sz.length k _ (M:=M1) (decide_eq_false (by omega)))
  sz.length 0 (by omega) (s:=()) (M:=M) ⟨X,hM,gD,by rw[fillS_zero,hxl];exact gE⟩
 refine⟨M',h1,h2,h3,?_⟩
 have:=fillS_all (rowCells D (cOf sz) (fun _=>0) sz.length) sln
 rw[hxl] at this
 rw[this] at h6
 exact h6
theorem rK74:Try.f74.results= #[.tmp 4]:=by kernel_rfl
theorem w30(D k:Nat)(cd:List Value)(az:Option Addr)(cz:Nat)(sz:List Nat){M:Mem}(hM:MemOk M)(gD:M.get D=some ⟨cd,3,1,0,true⟩)(hsz:pNats sz (.slice az sz.length cz) M)(hsl:sz.length≤801)(hkk:offS (cOf sz) sz.length≤k)(hk60:k≤60): ∃v_ M',Ev Try.prog [] 74 [sli D 0 k (k+1),.slice az sz.length cz] M v_ M'∧Ext M M'∧MemOk M'∧pShare ((D,k),sz) M.next v_ M':=by
 obtain⟨b1,M2,eb3,em4,g5,E6,hM7⟩:=mks_t (P:=Try.prog) (t:=29) (elem:=22) (z:=sln) (n:=sz.length) hM (by kernel_rfl) (by kernel_rfl) (by omega)
 have nb1:M.next≤b1:=by rw[←eb3];exact(Ext.refl M).next
 have dDb1:D≠b1:=by have:=Mem.lt_of_get gD;omega
 have g8:=E6.old gD
 have X9:=(Ext.refl M).trans E6
 obtain⟨M10,hL11,X12,hM13,g14⟩:=loop30 hM7 X9 hsz hsl hkk hk60 nb1 g8 g5 dDb1
 have hraw:oT Try.prog [0] 60 Try.f74 q74 [sli D 0 k (k+1),.slice az sz.length cz] M [ttT 5,ttV 7 (sli b1 0 sz.length (sz.length+1)) M2,ttT 15,.blk 18 [0,5,6,12,13,14] .normal (fr [(5,(sli b1 0 sz.length (sz.length+1)))]) M10] 4=some (.ret,some (sli b1 0 sz.length (sz.length+1)),M10,[.ln az sz.length cz,.eq (amakeSlice Try.prog 29 (i64 ((sz.length:Int))) (i64 ((sz.length:Int))) M) (1,.val (sli b1 0 sz.length (sz.length+1)),M2),.ln az sz.length cz,.blk 0 (.loop (q74.loopAt 0)) Try.f74.ntmps [0,5,6,12,13,14] [some (sli D 0 k (k+1)),some (sli b1 0 sz.length (sz.length+1)),some (i64 0),some (.slice az sz.length cz),some (i64 ((sz.length:Int))),some (i64 0)] M2 .normal (fr [(5,(sli b1 0 sz.length (sz.length+1)))]) M10]):=by kernel_rfl
 exact⟨sli b1 0 sz.length (sz.length+1),M10,Ev.told_tmp noNumP mixedP Try.func74 q74_ok (by kernel_rfl) rK74 (fun B=>sb1 (sbN B) 0 hL11) (fun _ h=>blksF_one h) hraw (hk (lN (GRowsAt.ln (l:=sz.map fun k=>((k:Nat):Int)) hsz)) (hk (q_eq em4 Nat.one_ne_zero) (hk (lN (GRowsAt.ln (l:=sz.map fun k=>((k:Nat):Int)) hsz)) (hk (q_blk rfl) hn)))),X12,hM13,⟨b1,rfl,nb1,g14⟩⟩
abbrev Q74:=FC (asP (as2 pMem pNats) fun x=>x.2.length≤801∧offS (cOf x.2) x.2.length≤x.1.2∧x.1.2≤60) pShare id
theorem con74{x:(Nat×Nat)×List Nat}{lv:List Value}{M:Mem}(hM:MemOk M)(h:(asP (as2 pMem pNats) fun x:(Nat×Nat)×List Nat=>x.2.length≤801∧offS (cOf x.2) x.2.length≤x.1.2∧x.1.2≤60) x lv M): ∃v M',Con Try.prog [] 74 Q74 lv M v M':=by
 refine FC.con h ?_
 obtain⟨⟨g0,g1,rfl,k0,k1⟩,h1,h2,h3⟩:=h
 obtain⟨⟨D,k⟩,sz⟩:=x
 obtain⟨rfl,cd,gD⟩:=k0
 obtain⟨az,cz,e⟩:=GRowsAt.form (l:=sz.map fun k=>((k:Nat):Int)) k1
 rw[List.length_map] at e
 subst e
 obtain⟨v',M',q1,q2,_,q3⟩:=w30 D k cd az cz sz hM gD k1 h1 h2 h3
 exact⟨v',M',q1,q2,q3⟩
end Go.Proofs.Ytdaglldahidmbaa
