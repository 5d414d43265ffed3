/-
  Package hier: each of its laws for every argument; no conditions. The last text states which.
-/
import Derived.Test.YtdaglldahidmbaaGVP4
import Derived.Test.YtdaglldahidmbaaGAmBk
import Derived.Test.YtdaglldahidmbaaGAmMk
set_option linter.unusedVariables false
set_option linter.unusedSimpArgs false
open Go Go.Am Go.Proofs
namespace Go.Proofs.Ytdaglldahidmbaa
set_option maxRecDepth 100000
theorem dC4:(Try.prog.underlying 4).map isAggD=some false:=by kernel_rfl
theorem dS4:(Try.prog.info? 4).map (·.size)=some 1:=by kernel_rfl
theorem r23(D E n ab bb o m c i p q w:Nat)(x:Int)(cd ce:List Value)(ad:AdjM){M M0:Mem}(hM:MemOk M)(X0:Ext M0 M)(hD:M0.next≤D)(hE:M0.next≤E)(gD:M.get D=some ⟨cd,3,1,0,true⟩)(gE:M.get E=some ⟨ce,22,1,0,true⟩)(dDE:D≠E)(hadj:pAdj 108 ad (pt ab 0) M0)(hok:okA ad)(cc0:(decide (((i:Int))<((m:Int))))=true)(hld0:aload Try.prog 3 ⟨bb,o+((i:Int):Int).toNat*1,none⟩ M0=some (i64 x))(hi1:0≤(((endsN ad x:Nat):Int):Int)∧(((endsN ad x:Nat):Int):Int)<801)(hc2:(ce)[0+(((endsN ad x:Nat):Int):Int).toNat*1]?=some (sli D p q w))(hr3:q+1<w∧p+(q+1)*1≤(cd).length∧q<1073741824)(hof4:0+(((endsN ad x:Nat):Int):Int).toNat*1+1≤(ce).length): ∃T1 M',Rd Try.prog [] (q52.loopAt 0) Try.f52.ntmps (fr [(1,(.func (.func 54) ⟨[.agg ⟨[i64 ((n:Int)),pt ab 0]⟩]⟩ ⟨[]⟩)),(5,(sli D 0 m (m+1))),(6,(sli E 0 801 802)),(18,(sli bb o m c)),(19,(i64 ((m:Int)))),(20,(i64 ((i:Int))))]) M .normal T1 M'∧ [1,5,6,18,19,20].map T1.get= [some (.func (.func 54) ⟨[.agg ⟨[i64 ((n:Int)),pt ab 0]⟩]⟩ ⟨[]⟩),some (sli D 0 m (m+1)),some (sli E 0 801 802),some (sli bb o m c),some (i64 ((m:Int))),some (i64 (IntKind.wrap .i64 (((i:Int))+(1:Int))))]∧Ext M0 M'∧MemOk M'∧M'.get D=some ⟨splice cd (p+q*1) [i64 x],3,1,0,true⟩∧M'.get E=some ⟨splice ce (0+(((endsN ad x:Nat):Int):Int).toNat*1) [sli D p (q+1) w],22,1,0,true⟩∧ ∀id k,M.get id=some k→id≠D→id≠E→M'.get id=some k:=by
 obtain⟨w1,N2,M3,p4,l5,e6,E7,hM8,F9⟩:=call_fc (x:=((n,ad),x)) hM con54 (⟨⟨_,_,rfl,⟨_,rfl,AP.Ext (R:=(pAdj 108)) hadj X0⟩,rfl⟩,hok⟩)
 have g11:=E7.old gD
 have g12:=E7.old gE
 have ew1:w1=(i64 (((endsN ad x:Nat):Int))):=F9
 subst ew1
 have X13:=X0.trans E7
 obtain⟨b14,M15,eb16,em17,g18,E19,hM20⟩:=new_t hM8 ⟨[i64 x],3,1,0,true⟩
 have g21:=E19.old g11
 have g22:=E19.old g12
 have X24:=X13.trans E19
 obtain⟨M25,q26,g27,kp28,X29,hM30,nx31⟩:=append_in_t (P:=Try.prog) (sT:=22) (xT:=22) (elem:=3) (w:=1) (y:=8) (cx:=2) X24 hD hM20 (by kernel_rfl) (by kernel_rfl) (by kernel_rfl) (by decide) (by decide) hr3.2.2 g18 (ox:=0) (new:= [i64 x]) rfl rfl rfl g21 (takeN_some (n:=q*1) (k:=p) (l:=cd) (by have:=hr3.2.1;omega)) rfl rfl (Nat.zero_le _) hr3.1 hr3.2.1
 replace g27:M25.get D=some ⟨splice cd (p+q*1) [i64 x],3,1,0,true⟩:=g27
 have g32:=(kp28 _ (Ne.symm dDE)).trans g22
 obtain⟨M34,q35,g36,kp37,X38,hM39,nx40⟩:=store_t (o:=0+(((endsN ad x:Nat):Int):Int).toNat*1) (v:=(sli D p (q+1) w)) (new:=splice ce (0+(((endsN ad x:Nat):Int):Int).toNat*1) [sli D p (q+1) w]) X29 hE hM30 dS22 g32 rfl rfl (Nat.zero_le _) hof4 rfl
 replace g36:M34.get E=some ⟨splice ce (0+(((endsN ad x:Nat):Int):Int).toNat*1) [sli D p (q+1) w],22,1,0,true⟩:=g36
 have g41:=(kp37 _ dDE).trans g27
 have hraw:oR Try.prog [] 60 Try.f52 (q52.loopAt 0) [(1,(.func (.func 54) ⟨[.agg ⟨[i64 ((n:Int)),pt ab 0]⟩]⟩ ⟨[]⟩)),(5,(sli D 0 m (m+1))),(6,(sli E 0 801 802)),(18,(sli bb o m c)),(19,(i64 ((m:Int)))),(20,(i64 ((i:Int))))] M [ttT 2,ttT 4,ttL 6 (i64 x),ttV 14 (i64 (((endsN ad x:Nat):Int))) M3,ttT 26,ttL 28 (sli D p q w),ttV 32 (sli b14 0 1 2) M15,.at 34 (2,.val (sli D p (q+1) w),M25),ttT 36,ttS 38 M34] [1,5,6,18,19,20]=some (.normal,[some (.func (.func 54) ⟨[.agg ⟨[i64 ((n:Int)),pt ab 0]⟩]⟩ ⟨[]⟩),some (sli D 0 m (m+1)),some (sli E 0 801 802),some (sli bb o m c),some (i64 ((m:Int))),some (i64 (IntKind.wrap .i64 (((i:Int))+(1:Int))))],M34,[qT (decide (((i:Int))<((m:Int)))),.q (.inb ((i:Int)) m) (ansB true),qL 3 bb (o+((i:Int):Int).toNat*1) M (i64 x),qC 54 [.agg ⟨[i64 ((n:Int)),pt ab 0]⟩,i64 x] M (i64 (((endsN ad x:Nat):Int))) M3,.q (.inb (((endsN ad x:Nat):Int)) 801) (ansB true),qL 22 E (0+(((endsN ad x:Nat):Int):Int).toNat*1) M3 (sli D p q w),.eq (abuildSlice Try.prog 22 1 [(0,(i64 x))] M3) (1,.val (sli b14 0 1 2),M15),.q (.append [22,22] (sli D p q w) (sli b14 0 1 2) M15) (2,.val (sli D p (q+1) w),M25),.q (.inb (((endsN ad x:Nat):Int)) 801) (ansB true),qS 22 E (0+(((endsN ad x:Nat):Int):Int).toNat*1) (sli D p (q+1) w) M25 M34]):=by kernel_rfl
 have hkp: ∀id k,M.get id=some k→id≠D→id≠E→M34.get id=some k:=fun id k g h_D h_E=>by
  have g:=E7.old g
  have g:=E19.old g
  have g:=((fun id h _=>kp28 id h) id h_D (Mem.lt_of_get g)).trans g
  have g:=((fun id h _=>kp37 id h) id h_E (Mem.lt_of_get g)).trans g
  exact g
 obtain⟨T1,h1,h2⟩:=Rd.told noNumP mixedP (fun B=>sb0 (sbQ 54 Q54 (sbN _))) (fun _ _=>rfl) hraw (hk (bT cc0) (hk (q_inb (by omega) (by simp at cc0;omega)) (hk (q_ld (aload_ext X0 hld0)) (hk (q_call rfl p4 l5 e6) (hk (q_inb hi1.1 hi1.2) (hk (q_ld (aload_cell (a:=⟨E,0+(((endsN ad x:Nat):Int):Int).toNat*1,none⟩) dC22 g12 hc2)) (hk (q_eq (by rw[←eb16,←em17];kernel_rfl) Nat.one_ne_zero) (hk (q_app q26 (Nat.succ_ne_zero _)) (hk (q_inb hi1.1 hi1.2) (hk (q_st q35) hn))))))))))
 exact⟨T1,M34,h1,h2,X38,hM39,g41,g36,hkp⟩
theorem r23x(D E n ab:Nat)(a:Option Addr)(m c i:Nat){M:Mem}(cc0:(decide (((i:Int))<((m:Int))))=false): ∃T1,Rd Try.prog [] (q52.loopAt 0) Try.f52.ntmps (fr [(1,(.func (.func 54) ⟨[.agg ⟨[i64 ((n:Int)),pt ab 0]⟩]⟩ ⟨[]⟩)),(5,(sli D 0 m (m+1))),(6,(sli E 0 801 802)),(18,(.slice a m c)),(19,(i64 ((m:Int)))),(20,(i64 ((i:Int))))]) M (.exit 0) T1 M∧ [5].map T1.get= [some (sli D 0 m (m+1))]:=by
 have hraw:oR Try.prog [] 60 Try.f52 (q52.loopAt 0) [(1,(.func (.func 54) ⟨[.agg ⟨[i64 ((n:Int)),pt ab 0]⟩]⟩ ⟨[]⟩)),(5,(sli D 0 m (m+1))),(6,(sli E 0 801 802)),(18,(.slice a m c)),(19,(i64 ((m:Int)))),(20,(i64 ((i:Int))))] M [ttF 2] [5]=some ((.exit 0),[some (sli D 0 m (m+1))],M,[qF (decide (((i:Int))<((m:Int))))]):=by kernel_rfl
 obtain⟨T1,h1,h2⟩:=Rd.told noNumP mixedP (specs_none Try.prog) (fun _ _=>rfl) hraw (hk (bF cc0) hn)
 exact⟨T1,h1,h2⟩
theorem loop23{a:Option Addr}{c D E n ab:Nat}{ad:AdjM}{vs:List Int}{M0 M:Mem}(hM:MemOk M)(X:Ext M0 M)(hs:pInts vs (.slice a vs.length c) M0)(hadj:pAdj 108 ad (pt ab 0) M0)(hok:okA ad)(hl:vs.length≤60)(hD:M0.next≤D)(hE:M0.next≤E)(dDE:D≠E)(gE:M.get E=some ⟨rowCells D (cOf (tallyN ad vs)) (fun _=>0) 801,22,1,0,true⟩)(gD:M.get D=some ⟨List.replicate vs.length (i64 0),3,1,0,true⟩):
  ∃M',LoopR Try.prog [] (q52.loopAt 0) Try.f52.ntmps (fr [(1,(.func (.func 54) ⟨[.agg ⟨[i64 ((n:Int)),pt ab 0]⟩]⟩ ⟨[]⟩)),(5,sli D 0 vs.length (vs.length+1)),(6,sli E 0 801 802),(18,.slice a vs.length c),(19,i64 vs.length),(20,i64 ((0:Nat):Int))]) M (.exit 0) (fr [(5,sli D 0 vs.length (vs.length+1))]) M'∧Ext M0 M'∧MemOk M'∧M'.get D=some ⟨(sortedI ad vs).map i64,3,1,0,true⟩:=by
 have hall:=tally_sum hok vs
 obtain⟨_,M',h1,h2,h3,h4,mem,h5,h6⟩:=LoopR.for (P:=Try.prog) (GL:= []) (b:=q52.loopAt 0) (nt:=Try.f52.ntmps) (id:=0) (σ:=Unit) (n:=vs.length) (Inv:=fun i _ M1=>Ext M0 M1∧MemOk M1∧M1.get E=some ⟨rowCells D (cOf (tallyN ad vs)) (cnt (keyV ad vs) i) 801,22,1,0,true⟩∧ ∃mem,M1.get D=some ⟨mem,3,1,0,true⟩∧Bk (cOf (tallyN ad vs)) 801 (keyV ad vs) (fun j=>i64 ((vs[j]?).getD 0)) i mem)
  (F:=fun i _=> [(1,(.func (.func 54) ⟨[.agg ⟨[i64 ((n:Int)),pt ab 0]⟩]⟩ ⟨[]⟩)),(5,sli D 0 vs.length (vs.length+1)),(6,sli E 0 801 802),(18,.slice a vs.length c),(19,i64 vs.length),(20,i64 ((i:Nat):Int))])
  (O:=fun _=> [(5,sli D 0 vs.length (vs.length+1))])
  (by
   rintro i _ M1 hi ⟨X1,hM1,hg1,mem,hg2,hB⟩
   obtain⟨bb,o,rfl,_⟩:=form_pos hs (by omega)
   have ht:vs[i]?=some vs[i]:=List.getElem?_eq_getElem hi
   have hk:endsN ad vs[i]=keyV ad vs i:=by unfold keyV;rw[ht];rfl
   have hle:=endsN_le hok vs[i]
   have hkl:keyV ad vs i<801:=by omega
   have hlt:cnt (keyV ad vs) i (keyV ad vs i)<cOf (tallyN ad vs) (keyV ad vs i):=by rw[cOf_tally hkl];exact cnt_lt (keyV ad vs) hi
   have hroom:=hB.room hkl hlt
   have hc:=cnt_le (keyV ad vs) i (keyV ad vs i)
   have e0:0+(((endsN ad vs[i]:Nat):Int):Int).toNat*1=keyV ad vs i:=by rw[hk];simp
   obtain⟨T1,M2,h1,h2,h3,h4,h5,h6,_⟩:=r23 D E n ab bb o vs.length c i (offS (cOf (tallyN ad vs)) (keyV ad vs i)) (cnt (keyV ad vs) i (keyV ad vs i)) (cOf (tallyN ad vs) (keyV ad vs i)+1) vs[i] _ _ ad hM1 X1 hD hE hg2 hg1 dDE hadj hok (decide_eq_true (by omega)) (ld_one (P:=Try.prog) (ty:=3) hs ht rfl dC3) (by omega) (by rw[e0];exact rowCells_get _ _ _ hkl) ⟨by omega,by omega,by omega⟩ (by rw[e0,rowCells_len];omega)
   rw[wrap_succ (by omega)] at h2
   rw[e0,rowCells_step D _ (keyV ad vs) i 801 hkl] at h6
   have hst:=hB.step hkl hlt
   simp only [ht,Option.getD_some] at hst
   rw[show offS (cOf (tallyN ad vs)) (keyV ad vs i)+cnt (keyV ad vs) i (keyV ad vs i)=offS (cOf (tallyN ad vs)) (keyV ad vs i)+cnt (keyV ad vs) i (keyV ad vs i)*1 by omega] at hst
   exact⟨(),T1,M2,h1,h2,h3,h4,h6,_,h5,hst⟩)
  (by
   rintro _ M1 ⟨X1,hM1,_⟩
   exact r23x D E n ab a vs.length c vs.length (M:=M1) (decide_eq_false (by omega)))
  vs.length 0 (by omega) (s:=()) (M:=M) ⟨X,hM,gE,_,gD,Bk.zero (by rw[hall];simp)⟩
 refine⟨M',h1,h2,h3,?_⟩
 rw[h5,sorted_of h6]
theorem rK52:Try.f52.results= #[.tmp 4]:=by kernel_rfl
theorem w23(n ab:Nat)(ad:AdjM)(av:Option Addr)(cv:Nat)(vs:List Int){M:Mem}(hM:MemOk M)(hvs:pInts vs (.slice av vs.length cv) M)(hadj:pAdj 108 ad (pt ab 0) M)(hok:okA ad)(hl60:vs.length≤60): ∃v_ M',Ev Try.prog [] 52 [.slice av vs.length cv,.func (.func 54) ⟨[.agg ⟨[i64 ((n:Int)),pt ab 0]⟩]⟩ ⟨[]⟩] M v_ M'∧Ext M M'∧MemOk M'∧newR pInts (sortedI ad vs) M.next v_ M':=by
 obtain⟨b1,M2,eb3,em4,g5,E6,hM7⟩:=mks_t (P:=Try.prog) (t:=22) (elem:=3) (z:=(i64 0)) (n:=vs.length) hM (by kernel_rfl) (by kernel_rfl) (by omega)
 have nb1:M.next≤b1:=by rw[←eb3];exact(Ext.refl M).next
 have X8:=(Ext.refl M).trans E6
 obtain⟨w12,N13,M14,p15,l16,e17,E18,hM19,F20⟩:=call_fc (x:=(vs,n,ad)) hM7 con75 (⟨⟨_,_,rfl,AP.Ext (R:=pInts) hvs X8,_,rfl,_,rfl,AP.Ext (R:=(pAdj 108)) hadj X8⟩,hok,hl60⟩)
 have g22:=E18.old g5
 have G11:pNats (tallyN ad vs) w12 (hidx [(0,M2.next)] M14):=hx_of F20
 obtain⟨a9,c10,ew12⟩:=GRowsAt.form (l:=(tallyN ad vs).map fun k=>((k:Nat):Int)) G11
 rw[List.length_map,tallyN_len] at ew12
 subst ew12
 have X23:=X8.trans E18
 have ltb1M27:=Mem.lt_of_get g22
 obtain⟨w25,N26,M27,p28,l29,e30,E31,hM32,F33⟩:=call_fc (x:=((b1,vs.length),tallyN ad vs)) hM19 con74 (⟨⟨_,_,rfl,⟨rfl,_,g22⟩,hx_out (R:=pNats) G11⟩,by rw[tallyN_len];exact Nat.le_refl _,by rw[tallyN_len,tally_sum hok];exact Nat.le_refl _,hl60⟩)
 have g36:=E31.old g22
 obtain⟨b24,ew25,nb24,gb24⟩:=F33
 simp only [id,tallyN_len] at ew25 gb24
 subst ew25
 have db1b24:b1≠b24:=by have:=Mem.lt_of_get g22;omega
 have nb24:=Nat.le_trans (X23).next nb24
 have X37:=X23.trans E31
 obtain⟨M38,hL39,X40,hM41,g42⟩:=loop23 hM32 X37 hvs hadj hok hl60 nb1 nb24 db1b24 gb24 g36
 have hraw:oT Try.prog [0] 60 Try.f52 q52 [.slice av vs.length cv,.func (.func 54) ⟨[.agg ⟨[i64 ((n:Int)),pt ab 0]⟩]⟩ ⟨[]⟩] M [ttT 5,ttV 7 (sli b1 0 vs.length (vs.length+1)) M2,ttV 17 (.slice a9 801 c10) M14,ttV 19 (sli b24 0 801 802) M27,ttT 25,.blk 28 [1,5,6,18,19,20] .normal (fr [(5,(sli b1 0 vs.length (vs.length+1)))]) M38] 4=some (.ret,some (sli b1 0 vs.length (vs.length+1)),M38,[.ln av vs.length cv,.eq (amakeSlice Try.prog 22 (i64 ((vs.length:Int))) (i64 ((vs.length:Int))) M) (1,.val (sli b1 0 vs.length (vs.length+1)),M2),qC 75 [.slice av vs.length cv,.func (.func 54) ⟨[.agg ⟨[i64 ((n:Int)),pt ab 0]⟩]⟩ ⟨[]⟩] M2 (.slice a9 801 c10) M14,qC 74 [sli b1 0 vs.length (vs.length+1),.slice a9 801 c10] M14 (sli b24 0 801 802) M27,.ln av vs.length cv,.blk 0 (.loop (q52.loopAt 0)) Try.f52.ntmps [1,5,6,18,19,20] [some (.func (.func 54) ⟨[.agg ⟨[i64 ((n:Int)),pt ab 0]⟩]⟩ ⟨[]⟩),some (sli b1 0 vs.length (vs.length+1)),some (sli b24 0 801 802),some (.slice av vs.length cv),some (i64 ((vs.length:Int))),some (i64 0)] M27 .normal (fr [(5,(sli b1 0 vs.length (vs.length+1)))]) M38]):=by kernel_rfl
 exact⟨sli b1 0 vs.length (vs.length+1),M38,Ev.told_tmp noNumP mixedP Try.func52 q52_ok (by kernel_rfl) rK52 (fun B=>sb1 (sbQ 74 Q74 (sbQ 75 Q75 (sbN _))) 0 hL39) (fun _ h=>blksF_one h) hraw (hk (lN hvs.ln) (hk (q_eq em4 Nat.one_ne_zero) (hk (q_call rfl p15 l16 e17) (hk (q_call rfl p28 l29 e30) (hk (lN hvs.ln) (hk (q_blk rfl) hn)))))),X40,hM41,GRowsAt.of_blk' (b:=b1) (w:=1) (g:=iRow) (hid_of nb1 g42) (sortedI_len hok vs) (flat1 _).symm (fun _ _=>rfl) (by rw[sortedI_len hok];omega)⟩
abbrev Q52:=FC (asP (as2 pInts (pCount 54 108)) fun x=>okA x.2.2∧x.1.length≤60) (newR pInts) (fun x=>sortedI x.2.2 x.1)
theorem con52{x:List Int×Nat×AdjM}{lv:List Value}{M:Mem}(hM:MemOk M)(h:(asP (as2 pInts (pCount 54 108)) fun x:List Int×Nat×AdjM=>okA x.2.2∧x.1.length≤60) x lv M): ∃v M',Con Try.prog [] 52 Q52 lv M v M':=by
 refine FC.con h ?_
 obtain⟨⟨g0,g1,rfl,k0,k1⟩,hok,hl⟩:=h
 obtain⟨vs,n,ad⟩:=x
 obtain⟨av,cv,rfl⟩:=GRowsAt.form k0
 obtain⟨s,rfl,p,rfl,hadj⟩:=k1
 obtain⟨ab,o,i_,t,s,rfl,gab,hout,hinn,hto,hset⟩:=id hadj
 obtain⟨v',M',h1,h2,_,h3⟩:=w23 n ab ad av cv vs hM k0 hadj hok hl
 exact⟨v',M',h1,h2,h3⟩
theorem rK23:Try.f23.results= #[.tmp 2]:=by kernel_rfl
theorem w13(n:Nat)(al:Option Addr)(cl:Nat)(l:List E4){M:Mem}(hM:MemOk M)(hl:pEdges l (.slice al l.length cl) M)(hck:chkN (n:Int) l=true)(hok:okA (adjM n l))(hn60:n≤60): ∃v_ M',Ev Try.prog [] 23 [.agg ⟨[i64 ((n:Int)),.slice al l.length cl]⟩] M v_ M'∧Ext M M'∧MemOk M'∧newR pInts (orderL n l) M.next v_ M':=by
 obtain⟨b1,M2,eb3,em4,g5,E6,hM7⟩:=new_t hM ⟨[i64 ((n:Int)),.slice al l.length cl],26,2,0,true⟩
 have X9:=(Ext.refl M).trans E6
 have ltb1M15:=Mem.lt_of_get g5
 obtain⟨w13,N14,M15,p16,l17,e18,E19,hM20,F21⟩:=call_fc (x:=(n,l)) hM7 con51 (⟨⟨_,rfl,_,rfl,AP.Ext (R:=pEdges) hl X9⟩,hck⟩)
 have nx22:=E19.next
 obtain⟨p12,ew13,G11⟩:pSight 108 (n,adjM n l) w13 (hidx [(0,M2.next)] M15):=hx_of F21
 simp only at ew13 G11
 obtain⟨ab10,_,_,_,_,ep12,_⟩:=id G11
 subst ep12
 subst ew13
 have X24:=X9.trans E19
 obtain⟨b25,M26,eb27,em28,g29,E30,hM31⟩:=new_t hM20 ⟨[i64 0,.pointer none],77,2,0,true⟩
 have nb25:M.next≤b25:=by rw[←eb27];exact X24.next
 have F32:=hx_new (R:=(pAdj 108)) G11 eb27 E30
 have X35:=X24.trans E30
 obtain⟨M36,q37,g38,kp39,X40,hM41,nx42⟩:=store_t (o:=0) (v:=(.agg ⟨[i64 ((n:Int)),pt ab10 0]⟩)) (new:= [i64 ((n:Int)),pt ab10 0]) X35 nb25 hM31 dS77 g29 rfl rfl (Nat.zero_le _) (Nat.le_of_ble_eq_true rfl) rfl
 replace g38:M36.get b25=some ⟨[i64 ((n:Int)),pt ab10 0],77,2,0,true⟩:=g38
 have F43:=hx_keep (R:=(pAdj 108)) F32 (fun id h _=>kp39 id h) (by intro id hh;simp only [hidden_con] at hh;omega)
 obtain⟨R45,eR46⟩: ∃m:Mem,m=Mem.mk M36.blks M36.next M36.hide []:=⟨_,rfl⟩
 have X47:Ext (Mem.mk M.blks M.next M.hide []) R45:=by rw[eR46];exact Ext.aside (X40)
 have lg48:R45.log= []:=by rw[eR46]
 have hM49:MemOk R45:=by rw[eR46];exact MemOk.log hM41
 have ltb25M36:b25<M36.next:=by have h:=Mem.lt_of_get g38;exact h
 have g51:R45.get b25=some ⟨[i64 ((n:Int)),pt ab10 0],77,2,0,true⟩:=by rw[eR46];exact g38
 have F52:=hx_still (R:=(pAdj 108)) (M':=R45) F43 (fun id b h=>by rw[eR46];exact h)
 obtain⟨w56,N57,M58,p59,l60,e61,E62,hM63,F64⟩:=call_fc (x:=(n,adjM n l)) hM49 con53 (⟨⟨_,rfl,_,rfl,hx_out (R:=pAdj 108) F52⟩,hok,hn60⟩)
 have F66:=hx_ext (R:=(pAdj 108)) F52 E62
 have g68:=E62.old g51
 have G55:pInts (othersTo (adjM n l) n) w56 (hidx [(0,R45.next)] M58):=hx_of F64
 obtain⟨a53,c54,ew56⟩:=GRowsAt.form G55
 subst ew56
 have lg69:M58.log= []:=by rw[←e61];exact lg48
 have X70:=X47.trans E62
 have ltb25M76:=Mem.lt_of_get g68
 obtain⟨w74,N75,M76,p77,l78,e79,E80,hM81,F82⟩:=call_fc (x:=(othersTo (adjM n l) n,n,adjM n l)) hM63 con52 (⟨⟨_,_,rfl,hx_out (R:=pInts) G55,_,rfl,_,rfl,hx_out (R:=pAdj 108) F66⟩,hok,Nat.le_trans (othersTo_len (adjM n l) n) hn60⟩)
 have G73:pInts (orderL n l) w74 (hidx [(0,M58.next)] M76):=hx_of F82
 obtain⟨a71,c72,ew74⟩:=GRowsAt.form G73
 subst ew74
 have lg88:M76.log= []:=by rw[←e79];exact lg69
 have X89:=X70.trans E80
 obtain⟨M90,ef91⟩: ∃m:Mem,m=(Mem.mk M76.blks M76.next M76.hide (M76.log++M36.log)):=⟨_,rfl⟩
 have X92:Ext M M90:=by rw[ef91];exact Ext.join (X40) (X89)
 have hM93:MemOk M90:=by rw[ef91];exact hM81
 have F98:=hx_still (R:=pInts) (M':=M90) G73 (fun id b h=>by rw[ef91];exact h)
 have hraw:oT Try.prog [] 60 Try.f23 q23 [.agg ⟨[i64 ((n:Int)),.slice al l.length cl]⟩] M [ttV 1 (pt b1 0) M2,ttL 5 (.agg ⟨[i64 ((n:Int)),.slice al l.length cl]⟩),ttV 7 (.agg ⟨[i64 ((n:Int)),pt ab10 0]⟩) M15,ttV 9 (pt b25 0) M26,ttS 11 M36,ttL 13 (.agg ⟨[i64 ((n:Int)),pt ab10 0]⟩),ttV 15 (.slice a53 (othersTo (adjM n l) n).length c54) M58,ttL 17 (.agg ⟨[i64 ((n:Int)),pt ab10 0]⟩),ttV 21 (.slice a71 (orderL n l).length c72) M76] 2=some (.ret,some (.slice a71 (orderL n l).length c72),Mem.mk M76.blks M76.next M36.hide (M76.log++M36.log),[.eq (abox Try.prog 26 (.agg ⟨[i64 ((n:Int)),.slice al l.length cl]⟩) M) (1,.val (pt b1 0),M2),qL 26 b1 0 M2 (.agg ⟨[i64 ((n:Int)),.slice al l.length cl]⟩),qC 51 [.agg ⟨[i64 ((n:Int)),.slice al l.length cl]⟩] M2 (.agg ⟨[i64 ((n:Int)),pt ab10 0]⟩) M15,.eq (aalloc Try.prog 77 M15) (1,.val (pt b25 0),M26),qS 77 b25 0 (.agg ⟨[i64 ((n:Int)),pt ab10 0]⟩) M26 M36,qL 77 b25 0 (Mem.mk M36.blks M36.next M36.hide []) (.agg ⟨[i64 ((n:Int)),pt ab10 0]⟩),qC 53 [.agg ⟨[i64 ((n:Int)),pt ab10 0]⟩] (Mem.mk M36.blks M36.next M36.hide []) (.slice a53 (othersTo (adjM n l) n).length c54) M58,qL 77 b25 0 (Mem.mk M58.blks M58.next (hides 0 [⟨1,1,M36.next,M58.next⟩,⟨0,1,M36.next,M36.next⟩]++M36.hide) M58.log) (.agg ⟨[i64 ((n:Int)),pt ab10 0]⟩),qT (Nat.blt b25 M36.next),qC 52 [.slice a53 (othersTo (adjM n l) n).length c54,.func (.func 54) ⟨[.agg ⟨[i64 ((n:Int)),pt ab10 0]⟩]⟩ ⟨[]⟩] (Mem.mk M58.blks M58.next M36.hide M58.log) (.slice a71 (orderL n l).length c72) M76,qT (apartN [b25] M76.log)]):=by kernel_rfl
 have rw0:Mem.mk M36.blks M36.next M36.hide []=R45:=eR46.symm
 have rw1:Mem.mk M58.blks M58.next M36.hide M58.log=M58:=by rw[(show M36.hide=M58.hide from((X40).hide.trans (X70).hide.symm))]
 have rw2:Mem.mk M58.blks M58.next (hides 0 [⟨1,1,M36.next,M58.next⟩,⟨0,1,M36.next,M36.next⟩]++M36.hide) M58.log=hidx (hides 0 [⟨1,1,M36.next,M58.next⟩,⟨0,1,M36.next,M36.next⟩]) M58:=by rw[(show M36.hide=M58.hide from((X40).hide.trans (X70).hide.symm))];rfl
 have rw4:(Mem.mk M76.blks M76.next M36.hide (M76.log++M36.log))=(Mem.mk M76.blks M76.next M76.hide (M76.log++M36.log)):=by rw[(show M36.hide=M76.hide from((X40).hide.trans (X89).hide.symm))]
 have rw5:(Mem.mk M76.blks M76.next M76.hide (M76.log++M36.log))=M90:=ef91.symm
 try rw[rw0] at hraw
 try rw[rw1] at hraw
 try rw[rw2] at hraw
 try rw[rw4] at hraw
 try rw[rw5] at hraw
 exact⟨.slice a71 (orderL n l).length c72,M90,Ev.told_tmp noNumP mixedP Try.func23 q23_ok (by kernel_rfl) rK23 (fun B=>sb0 (sbQ 51 Q51 (sbQ 52 Q52 (sbQ 53 Q53 (sbN _))))) (fun _ _=>rfl) hraw (hk (q_eq (by rw[←eb3,←em4];kernel_rfl) Nat.one_ne_zero) (hk (lA ⟨dA26,dS26⟩ g5 rfl) (hk (q_call rfl p16 l17 e18) (hk (q_eq (by rw[←eb27,←em28];kernel_rfl) Nat.one_ne_zero) (hk (q_st q37) (hk (lA ⟨dA77,dS77⟩ g51 rfl) (hk (q_call rfl p59 l60 e61) (hk (lA ⟨dA77,dS77⟩ (hidx_get.2 ⟨hides_low (by simp;omega),g68⟩) rfl) (hk (q_lt ltb25M36) (hk (q_call rfl p77 l78 e79) (hk (q_apart (by rw[lg88];simp<;>omega)) hn))))))))))),X92,hM93,hx_to (R:=pInts) F98 (by intro id hh;simp only [hidden_con] at hh;omega)⟩
abbrev Q23:=FC (asP (as1 pNetN) fun x=>chkN (x.1:Int) x.2=true) (newR pInts) (fun x=>orderL x.1 x.2)
theorem con23{x:Nat×List E4}{lv:List Value}{M:Mem}(hM:MemOk M)(h:(asP (as1 pNetN) fun x:Nat×List E4=>chkN (x.1:Int) x.2=true) x lv M): ∃v M',Con Try.prog [] 23 Q23 lv M v M':=by
 refine FC.con h ?_
 obtain⟨⟨g0,rfl,k0⟩,hck⟩:=h
 obtain⟨n,l⟩:=x
 obtain⟨_,rfl,hl⟩:=k0
 obtain⟨a,c,rfl⟩:=GRowsAt.form hl
 obtain⟨v,M',h1,h2,_,h3⟩:=w13 n a c l hM hl hck (okA_adjM hck) (by have:=(chkN_spec hck).2.1;simp only at this⊢;omega)
 exact⟨v,M',h1,h2,h3⟩
theorem r12n(bb o m c bb2 o2 c2 i:Nat)(x y:Int){M:Mem}{M0:Mem}(X0:Ext M0 M)(cc0:(decide (((i:Int))<((m:Int))))=true)(cc1:(x==y)=true)(hld0:aload Try.prog 3 ⟨bb,o+((i:Int):Int).toNat*1,none⟩ M0=some (i64 x))(hld1:aload Try.prog 3 ⟨bb2,o2+((i:Int):Int).toNat*1,none⟩ M0=some (i64 y)): ∃T1,Rd Try.prog [] (q17.loopAt 0) Try.f17.ntmps (fr [(0,(sli bb o m c)),(1,(sli bb2 o2 m c2)),(5,(i64 ((i:Int))))]) M .normal T1 M∧ [0,1,5].map T1.get= [some (sli bb o m c),some (sli bb2 o2 m c2),some (i64 (IntKind.wrap .i64 (((i:Int))+(1:Int))))]:=by
 have hraw:oR Try.prog [] 60 Try.f17 (q17.loopAt 0) [(0,(sli bb o m c)),(1,(sli bb2 o2 m c2)),(5,(i64 ((i:Int))))] M [ttT 8,ttT 14,ttL 16 (i64 x),ttT 22,ttL 24 (i64 y),ttF 27] [0,1,5]=some (.normal,[some (sli bb o m c),some (sli bb2 o2 m c2),some (i64 (IntKind.wrap .i64 (((i:Int))+(1:Int))))],M,[qT (decide (((i:Int))<((m:Int)))),.q (.inb ((i:Int)) m) (ansB true),qL 3 bb (o+((i:Int):Int).toNat*1) M (i64 x),.q (.inb ((i:Int)) m) (ansB true),qL 3 bb2 (o2+((i:Int):Int).toNat*1) M (i64 y),qF (!(x==y))]):=by kernel_rfl
 obtain⟨T1,h1,h2⟩:=Rd.told noNumP mixedP (specs_none Try.prog) (fun _ _=>rfl) hraw (hk (bT cc0) (hk (q_inb (by omega) (by simp at cc0;omega)) (hk (q_ld (aload_ext X0 hld0)) (hk (q_inb (by omega) (by simp at cc0;omega)) (hk (q_ld (aload_ext X0 hld1)) (hk (bF (by rw[cc1];rfl)) hn))))))
 exact⟨T1,h1,h2⟩
theorem r12r(bb o m c bb2 o2 c2 i:Nat)(x y:Int){M:Mem}{M0:Mem}(X0:Ext M0 M)(cc0:(decide (((i:Int))<((m:Int))))=true)(cc1:(x==y)=false)(hld0:aload Try.prog 3 ⟨bb,o+((i:Int):Int).toNat*1,none⟩ M0=some (i64 x))(hld1:aload Try.prog 3 ⟨bb2,o2+((i:Int):Int).toNat*1,none⟩ M0=some (i64 y)): ∃T1,Rd Try.prog [] (q17.loopAt 0) Try.f17.ntmps (fr [(0,(sli bb o m c)),(1,(sli bb2 o2 m c2)),(5,(i64 ((i:Int))))]) M .ret T1 M∧ [4].map T1.get= [some (.bool false)]:=by
 have hraw:oR Try.prog [] 60 Try.f17 (q17.loopAt 0) [(0,(sli bb o m c)),(1,(sli bb2 o2 m c2)),(5,(i64 ((i:Int))))] M [ttT 8,ttT 14,ttL 16 (i64 x),ttT 22,ttL 24 (i64 y),ttT 27] [4]=some (.ret,[some (.bool false)],M,[qT (decide (((i:Int))<((m:Int)))),.q (.inb ((i:Int)) m) (ansB true),qL 3 bb (o+((i:Int):Int).toNat*1) M (i64 x),.q (.inb ((i:Int)) m) (ansB true),qL 3 bb2 (o2+((i:Int):Int).toNat*1) M (i64 y),qT (!(x==y))]):=by kernel_rfl
 obtain⟨T1,h1,h2⟩:=Rd.told noNumP mixedP (specs_none Try.prog) (fun _ _=>rfl) hraw (hk (bT cc0) (hk (q_inb (by omega) (by simp at cc0;omega)) (hk (q_ld (aload_ext X0 hld0)) (hk (q_inb (by omega) (by simp at cc0;omega)) (hk (q_ld (aload_ext X0 hld1)) (hk (bT (by rw[cc1];rfl)) hn))))))
 exact⟨T1,h1,h2⟩
theorem r12x(a:Option Addr)(m c i:Nat)(V2:Value){M:Mem}(hln:a.isNone=true→m=0∧c=0)(cc0:(decide (((i:Int))<((m:Int))))=false): ∃T1,Rd Try.prog [] (q17.loopAt 0) Try.f17.ntmps (fr [(0,(.slice a m c)),(1,V2),(5,(i64 ((i:Int))))]) M (.exit 0) T1 M∧ [].map T1.get= []:=by
 have hraw:oR Try.prog [] 60 Try.f17 (q17.loopAt 0) [(0,(.slice a m c)),(1,V2),(5,(i64 ((i:Int))))] M [ttT 5,ttF 8] []=some ((.exit 0),[],M,[.ln a m c,qF (decide (((i:Int))<((m:Int))))]):=by kernel_rfl
 obtain⟨T1,h1,h2⟩:=Rd.told noNumP mixedP (specs_none Try.prog) (fun _ _=>rfl) hraw (hk (lN hln) (hk (bF cc0) hn))
 exact⟨T1,h1,h2⟩
theorem loop12{a a2:Option Addr}{c c2:Nat}{l k:List Int}{M:Mem}(hM:MemOk M)(hs:pInts l (.slice a l.length c) M)(hs2:pInts k (.slice a2 l.length c2) M):
  ∃e O M',LoopR Try.prog [] (q17.loopAt 0) Try.f17.ntmps (fr [(0,.slice a l.length c),(1,.slice a2 l.length c2),(5,i64 ((0:Nat):Int))]) M e (fr O) M'∧Ext M M'∧MemOk M'∧((e= .exit 0∧O= []∧l=k)∨(e= .ret∧O= [(4,.bool false)]∧l≠k)):=by
 have hlen:=hs.len
 have hlk:l.length=k.length:=GRowsAt.len_eq hs2
 refine LoopR.forE (σ:=Unit) (n:=l.length) (Inv:=fun i _ M1=>Ext M M1∧MemOk M1∧l.take i=k.take i)
  (F:=fun i _=> [(0,.slice a l.length c),(1,.slice a2 l.length c2),(5,i64 ((i:Nat):Int))])
  (Post:=fun e O M'=>Ext M M'∧MemOk M'∧((e= .exit 0∧O= []∧l=k)∨(e= .ret∧O= [(4,.bool false)]∧l≠k))) ?_ ?_ l.length 0 (by omega) (s:=()) ⟨Ext.refl M,hM,rfl⟩
 ·rintro i _ M1 hi ⟨X,hM1,hall⟩
  obtain⟨bb,o,rfl,_⟩:=form_pos hs (by omega)
  obtain⟨bb2,o2,rfl,_⟩:=form_pos hs2 (by omega)
  have ht:l[i]?=some l[i]:=List.getElem?_eq_getElem hi
  have ht2:k[i]?=some k[i]:=List.getElem?_eq_getElem (by omega)
  have hld:=ld_one (P:=Try.prog) (ty:=3) hs ht rfl dC3
  have hld2:=ld_one (P:=Try.prog) (ty:=3) hs2 ht2 rfl dC3
  by_cases hf:l[i]=k[i]
  ·obtain⟨T1,h1,h2⟩:=r12n bb o l.length c bb2 o2 c2 i l[i] k[i] (M:=M1) X (decide_eq_true (by omega)) (by simp [hf]) hld hld2
   rw[wrap_succ (by omega)] at h2
   refine .inl ⟨(),T1,M1,h1,h2,X,hM1,?_⟩
   rw[List.take_succ_eq_append_getElem hi,List.take_succ_eq_append_getElem (by omega),hall,hf]
  ·obtain⟨T1,h1,h2⟩:=r12r bb o l.length c bb2 o2 c2 i l[i] k[i] (M:=M1) X (decide_eq_true (by omega)) (by simp [hf]) hld hld2
   refine .inr ⟨_,[(4,.bool false)],T1,M1,h1,by simp,h2,X,hM1,.inr ⟨rfl,rfl,fun e=>hf ?_⟩⟩
   subst e;rfl
 ·rintro _ M1 ⟨X,hM1,hall⟩
  obtain⟨T1,h1,h2⟩:=r12x a l.length c l.length (.slice a2 l.length c2) (M:=M1) hs.ln (decide_eq_false (by omega))
  refine⟨_,[],T1,M1,h1,by simp,h2,X,hM1,.inl ⟨rfl,rfl,?_⟩⟩
  rw[List.take_length,hlk,List.take_length] at hall
  exact hall
theorem loop12_t{a a2:Option Addr}{c c2:Nat}{l k:List Int}{M:Mem}(hM:MemOk M)(hs:pInts l (.slice a l.length c) M)(hs2:pInts k (.slice a2 l.length c2) M)(h:decide (l=k)=true):
  ∃M',LoopR Try.prog [] (q17.loopAt 0) Try.f17.ntmps (fr [(0,.slice a l.length c),(1,.slice a2 l.length c2),(5,i64 ((0:Nat):Int))]) M (.exit 0) (fr []) M'∧Ext M M'∧MemOk M':=by
 obtain⟨e,O,M',h1,h2,h3,h4|h4⟩:=loop12 hM hs hs2
 ·obtain⟨rfl,rfl,_⟩:=h4;exact⟨M',h1,h2,h3⟩
 ·exact absurd (of_decide_eq_true h) h4.2.2
theorem loop12_f{a a2:Option Addr}{c c2:Nat}{l k:List Int}{M:Mem}(hM:MemOk M)(hs:pInts l (.slice a l.length c) M)(hs2:pInts k (.slice a2 l.length c2) M)(h:decide (l=k)=false):
  ∃M',LoopR Try.prog [] (q17.loopAt 0) Try.f17.ntmps (fr [(0,.slice a l.length c),(1,.slice a2 l.length c2),(5,i64 ((0:Nat):Int))]) M .ret (fr [(4,.bool false)]) M'∧Ext M M'∧MemOk M':=by
 obtain⟨e,O,M',h1,h2,h3,h4|h4⟩:=loop12 hM hs hs2
 ·exact absurd h4.2.2 (of_decide_eq_false h)
 ·obtain⟨rfl,rfl,_⟩:=h4;exact⟨M',h1,h2,h3⟩
theorem rK17:Try.f17.results= #[.tmp 4]:=by kernel_rfl
theorem w12Et(a1:Option Addr)(c1:Nat)(a2:Option Addr)(c2:Nat)(l k:List Int){M:Mem}(hM:MemOk M)(h1:pInts l (.slice a1 l.length c1) M)(h2:pInts k (.slice a2 l.length c2) M)(cc0:(decide (l=k))=true): ∃v_ M',Ev Try.prog [] 17 [.slice a1 l.length c1,.slice a2 l.length c2] M v_ M'∧Ext M M'∧MemOk M'∧v_=(.bool true):=by
 obtain⟨M1,hL2,E3,hM4⟩:=loop12_t hM (AP.Ext (R:=pInts) h1 (Ext.refl M)) (AP.Ext (R:=pInts) h2 (Ext.refl M)) cc0
 have X6:=(Ext.refl M).trans E3
 have hraw:oT Try.prog [0] 60 Try.f17 q17 [.slice a1 l.length c1,.slice a2 l.length c2] M [ttT 5,ttT 9,ttF 12,.blk 15 [0,1,5] .normal (fr []) M1] 4=some (.ret,some (.bool true),M1,[.ln a1 l.length c1,.ln a2 l.length c2,qF (!(((l.length:Int))==((l.length:Int)))),.blk 0 (.loop (q17.loopAt 0)) Try.f17.ntmps [0,1,5] [some (.slice a1 l.length c1),some (.slice a2 l.length c2),some (i64 0)] M .normal (fr []) M1]):=by kernel_rfl
 exact⟨.bool true,M1,Ev.told_tmp noNumP mixedP Try.func17 q17_ok (by kernel_rfl) rK17 (fun B=>sb1 (sbN B) 0 hL2) (fun _ h=>blksF_one h) hraw (hk (lN h1.ln) (hk (lN h2.ln) (hk (bF (by first|simp_all|(simp;omega))) (hk (q_blk rfl) hn)))),X6,hM4,rfl⟩
theorem w12Ef(a1:Option Addr)(c1:Nat)(a2:Option Addr)(c2:Nat)(l k:List Int){M:Mem}(hM:MemOk M)(h1:pInts l (.slice a1 l.length c1) M)(h2:pInts k (.slice a2 l.length c2) M)(cc0:(decide (l=k))=false): ∃v_ M',Ev Try.prog [] 17 [.slice a1 l.length c1,.slice a2 l.length c2] M v_ M'∧Ext M M'∧MemOk M'∧v_=(.bool false):=by
 obtain⟨M1,hL2,E3,hM4⟩:=loop12_f hM (AP.Ext (R:=pInts) h1 (Ext.refl M)) (AP.Ext (R:=pInts) h2 (Ext.refl M)) cc0
 have X6:=(Ext.refl M).trans E3
 have hraw:oT Try.prog [0] 60 Try.f17 q17 [.slice a1 l.length c1,.slice a2 l.length c2] M [ttT 5,ttT 9,ttF 12,.blk 15 [0,1,5] .ret (fr [(4,(.bool false))]) M1] 4=some (.ret,some (.bool false),M1,[.ln a1 l.length c1,.ln a2 l.length c2,qF (!(((l.length:Int))==((l.length:Int)))),.blk 0 (.loop (q17.loopAt 0)) Try.f17.ntmps [0,1,5] [some (.slice a1 l.length c1),some (.slice a2 l.length c2),some (i64 0)] M .ret (fr [(4,(.bool false))]) M1]):=by kernel_rfl
 exact⟨.bool false,M1,Ev.told_tmp noNumP mixedP Try.func17 q17_ok (by kernel_rfl) rK17 (fun B=>sb1 (sbN B) 0 hL2) (fun _ h=>blksF_one h) hraw (hk (lN h1.ln) (hk (lN h2.ln) (hk (bF (by first|simp_all|(simp;omega))) (hk (q_blk rfl) hn)))),X6,hM4,rfl⟩
theorem w12D(a1:Option Addr)(c1:Nat)(a2:Option Addr)(c2:Nat)(l k:List Int){M:Mem}(hM:MemOk M)(h1:pInts l (.slice a1 l.length c1) M)(h2:pInts k (.slice a2 k.length c2) M)(cc0:(((l.length:Int))==((k.length:Int)))=false): ∃v_ M',Ev Try.prog [] 17 [.slice a1 l.length c1,.slice a2 k.length c2] M v_ M'∧Ext M M'∧MemOk M'∧v_=(.bool false):=by
 have hraw:oT Try.prog [] 60 Try.f17 q17 [.slice a1 l.length c1,.slice a2 k.length c2] M [ttT 5,ttT 9,ttT 12] 4=some (.ret,some (.bool false),M,[.ln a1 l.length c1,.ln a2 k.length c2,qT (!(((l.length:Int))==((k.length:Int))))]):=by kernel_rfl
 exact⟨.bool false,M,Ev.told_tmp noNumP mixedP Try.func17 q17_ok (by kernel_rfl) rK17 (specs_none Try.prog) (fun _ _=>rfl) hraw (hk (lN h1.ln) (hk (lN h2.ln) (hk (bT (by rw[cc0];rfl)) hn))),Ext.refl M,hM,rfl⟩
abbrev Q17:=FC (as2 pInts pInts) (plain pB) (fun x=>decide (x.1=x.2))
theorem con17{x:List Int×List Int}{lv:List Value}{M:Mem}(hM:MemOk M)(h:(as2 pInts pInts) x lv M): ∃v M',Con Try.prog [] 17 Q17 lv M v M':=by
 refine FC.con h ?_
 obtain⟨g0,g1,rfl,k0,k1⟩:=h
 obtain⟨l,k⟩:=x
 obtain⟨a1,c1,rfl⟩:=GRowsAt.form k0
 obtain⟨a2,c2,rfl⟩:=GRowsAt.form k1
 simp only at k0 k1⊢
 by_cases hl:k.length=l.length
 ·rw[hl] at k1⊢
  cases hd:decide (l=k) with
  |true=>
   obtain⟨v,M',h1,h2,_,h3⟩:=w12Et a1 c1 a2 c2 l k hM k0 k1 hd
   exact⟨v,M',h1,h2,h3⟩
  |false=>
   obtain⟨v,M',h1,h2,_,h3⟩:=w12Ef a1 c1 a2 c2 l k hM k0 k1 hd
   exact⟨v,M',h1,h2,h3⟩
 ·obtain⟨v,M',h1,h2,_,h3⟩:=w12D a1 c1 a2 c2 l k hM k0 k1 (by simp;omega)
  rw[show decide (l=k)=false from decide_eq_false fun e=>hl (by rw[e])]
  exact⟨v,M',h1,h2,h3⟩
theorem r90z(p r6 bb o m c i:Nat)(N md k:Int)(S:Value)(l:List E4){M M0:Mem}(hM:MemOk M)(X0:Ext M0 M)(np:M0.next≤p)(gp:M.get p=some ⟨[i64 N,S],26,2,0,true⟩)(gr6h:M.get r6=some ⟨[i64 0,sln],26,2,0,true⟩)(dpr6:p≠r6)(hN62:(decide (0<N)&&decide (N<2^62))=true)(hA:AccC 37 4 M0 [p,r6] l.length ((l.map eRow).flatten) S M)(hl30:l.length<1073741824)(cc0:(decide (((i:Int))<((m:Int))))=true)(cc1:(decide (((i:Int))<(40:Int)))=true)(cc2:((modI md 3)==(0:Int))=true)(cc3:((modI k 31)==(0:Int))=true)(hld0:aload Try.prog 3 ⟨bb,o+((i:Int):Int).toNat*1,none⟩ M0=some (i64 k)): ∃T1 M' S195,Rd Try.prog [] (q10.loopAt 0) Try.f10.ntmps (fr [(1,(sli bb o m c)),(2,(i64 md)),(6,(pt r6 0)),(7,(pt p 0)),(8,(i64 ((i:Int))))]) M .normal T1 M'∧ [1,2,6,7,8].map T1.get= [some (sli bb o m c),some (i64 md),some (pt r6 0),some (pt p 0),some (i64 (IntKind.wrap .i64 (((i:Int))+(1:Int))))]∧Ext M0 M'∧MemOk M'∧M'.get p=some ⟨[i64 N,S195],26,2,0,true⟩∧M'.get r6=some ⟨[i64 0,sln],26,2,0,true⟩∧AccC 37 4 M0 [p,r6] (l.length+1) ((l.map eRow).flatten++ [i64 (modI k N),i64 (modI (quoI k 13) N),i64 (modI (IntKind.wrap .i64 ((modI k N)+(modI (quoI k 13) N))) 2),i64 (IntKind.wrap .i64 ((2147483647:Int)-(modI (quoI k 31) 3)))]) S195 M':=by
 obtain⟨R1,eR2⟩: ∃m:Mem,m=Mem.mk M.blks M.next M.hide []:=⟨_,rfl⟩
 have X3:Ext (Mem.mk M0.blks M0.next M0.hide []) R1:=by rw[eR2];exact Ext.aside (X0)
 have lg4:R1.log= []:=by rw[eR2]
 have hM5:MemOk R1:=by rw[eR2];exact MemOk.log hM
 have ltpM:p<M.next:=by have h:=Mem.lt_of_get gp;exact h
 have g6:R1.get p=some ⟨[i64 N,S],26,2,0,true⟩:=by rw[eR2];exact gp
 have ltr6M:r6<M.next:=by have h:=Mem.lt_of_get gr6h;exact h
 have g7:R1.get r6=some ⟨[i64 0,sln],26,2,0,true⟩:=by rw[eR2];exact gr6h
 have A8:=hA.same (M':=R1) (fun id b h=>by rw[eR2];exact h)
 obtain⟨w9,N10,M11,p12,l13,e14,E15,hM16,F17⟩:=call_fc (x:=(k,N)) hM5 con19 (⟨⟨_,_,rfl,rfl,rfl⟩,hN62⟩)
 have A19:=A8.ext E15
 have g20:=E15.old g6
 have g21:=E15.old g7
 have ew9:w9=(i64 (modI k N)):=F17
 subst ew9
 have lg22:M11.log= []:=by rw[←e14];exact lg4
 have X23:=X3.trans E15
 obtain⟨w24,N25,M26,p27,l28,e29,E30,hM31,F32⟩:=call_fc (x:=((quoI k 13),N)) hM16 con19 (⟨⟨_,_,rfl,rfl,rfl⟩,hN62⟩)
 have A34:=A19.ext E30
 have g35:=E30.old g20
 have g36:=E30.old g21
 have ew24:w24=(i64 (modI (quoI k 13) N)):=F32
 subst ew24
 have lg37:M26.log= []:=by rw[←e29];exact lg22
 have X38:=X23.trans E30
 obtain⟨w39,N40,M41,p42,l43,e44,E45,hM46,F47⟩:=call_fc (x:=((quoI k 170),5)) hM31 con19 (⟨⟨_,_,rfl,rfl,rfl⟩,rfl⟩)
 have A49:=A34.ext E45
 have g50:=E45.old g35
 have g51:=E45.old g36
 have ew39:w39=(i64 (modI (quoI k 170) 5)):=F47
 subst ew39
 have lg52:M41.log= []:=by rw[←e44];exact lg37
 have X53:=X38.trans E45
 obtain⟨w54,N55,M56,p57,l58,e59,E60,hM61,F62⟩:=call_fc (x:=((quoI k 900),9)) hM46 con19 (⟨⟨_,_,rfl,rfl,rfl⟩,rfl⟩)
 have A64:=A49.ext E60
 have g65:=E60.old g50
 have g66:=E60.old g51
 have ew54:w54=(i64 (modI (quoI k 900) 9)):=F62
 subst ew54
 have lg67:M56.log= []:=by rw[←e59];exact lg52
 have X68:=X53.trans E60
 obtain⟨b69,M70,eb71,em72,g73,E74,hM75⟩:=new_t hM61 ⟨[i64 0,i64 0,i64 0,i64 0],37,4,0,true⟩
 have nb69:M0.next≤b69:=by rw[←eb71];exact X68.next
 have dpb69:p≠b69:=by have:=Mem.lt_of_get g65;omega
 have dr6b69:r6≠b69:=by have:=Mem.lt_of_get g66;omega
 have A76:=A64.new eb71 E74
 have g77:=E74.old g65
 have g78:=E74.old g66
 have lg79:M70.log= []:=by rw[←em72];exact lg67
 have X81:=X68.trans E74
 obtain⟨M82,q83,g84,kp85,X86,hM87,nx88⟩:=store_t (o:=0) (v:=(.agg ⟨[i64 (modI k N),i64 (modI (quoI k 13) N),i64 (modI (quoI k 170) 5),i64 (modI (quoI k 900) 9)]⟩)) (new:= [i64 (modI k N),i64 (modI (quoI k 13) N),i64 (modI (quoI k 170) 5),i64 (modI (quoI k 900) 9)]) X81 nb69 hM75 dS37 g73 rfl rfl (Nat.zero_le _) (Nat.le_of_ble_eq_true rfl) rfl
 replace g84:M82.get b69=some ⟨[i64 (modI k N),i64 (modI (quoI k 13) N),i64 (modI (quoI k 170) 5),i64 (modI (quoI k 900) 9)],37,4,0,true⟩:=g84
 have A89:=A76.keep (by simp) (fun id h _=>kp85 id h)
 have g90:=(kp85 _ dpb69).trans g77
 have g91:=(kp85 _ dr6b69).trans g78
 have lg92:M82.log= [b69]:=by rw[nx88,lg79]
 obtain⟨M93,ef94⟩: ∃m:Mem,m=(Mem.mk M82.blks M82.next M82.hide (M82.log++M.log)):=⟨_,rfl⟩
 have X95:Ext M0 M93:=by rw[ef94];exact Ext.join (X0) (X86)
 have hM96:MemOk M93:=by rw[ef94];exact hM87
 have g97:M93.get p=some ⟨[i64 N,S],26,2,0,true⟩:=by rw[ef94];exact g90
 have g98:M93.get r6=some ⟨[i64 0,sln],26,2,0,true⟩:=by rw[ef94];exact g91
 have g99:M93.get b69=some ⟨[i64 (modI k N),i64 (modI (quoI k 13) N),i64 (modI (quoI k 170) 5),i64 (modI (quoI k 900) 9)],37,4,0,true⟩:=by rw[ef94];exact g84
 have A100:=A89.same (M':=M93) (fun id b h=>by rw[ef94];exact h)
 obtain⟨w101,N102,M103,p104,l105,e106,E107,hM108,F109⟩:=call_fc (x:=(md,3)) hM96 con19 (⟨⟨_,_,rfl,rfl,rfl⟩,rfl⟩)
 have A111:=A100.ext E107
 have g112:=E107.old g97
 have g113:=E107.old g98
 have g114:=E107.old g99
 have ew101:w101=(i64 (modI md 3)):=F109
 subst ew101
 have X115:=X95.trans E107
 obtain⟨w116,N117,M118,p119,l120,e121,E122,hM123,F124⟩:=call_fc (x:=((IntKind.wrap .i64 ((modI k N)+(modI (quoI k 13) N))),2)) hM108 con19 (⟨⟨_,_,rfl,rfl,rfl⟩,rfl⟩)
 have A126:=A111.ext E122
 have g127:=E122.old g112
 have g128:=E122.old g113
 have g129:=E122.old g114
 have ew116:w116=(i64 (modI (IntKind.wrap .i64 ((modI k N)+(modI (quoI k 13) N))) 2)):=F124
 subst ew116
 have X130:=X115.trans E122
 obtain⟨M131,q132,g133,kp134,X135,hM136,nx137⟩:=store_t (o:=2) (v:=(i64 (modI (IntKind.wrap .i64 ((modI k N)+(modI (quoI k 13) N))) 2))) (new:= [i64 (modI k N),i64 (modI (quoI k 13) N),i64 (modI (IntKind.wrap .i64 ((modI k N)+(modI (quoI k 13) N))) 2),i64 (modI (quoI k 900) 9)]) X130 nb69 hM123 dS3 g129 rfl rfl (Nat.zero_le _) (Nat.le_of_ble_eq_true rfl) rfl
 replace g133:M131.get b69=some ⟨[i64 (modI k N),i64 (modI (quoI k 13) N),i64 (modI (IntKind.wrap .i64 ((modI k N)+(modI (quoI k 13) N))) 2),i64 (modI (quoI k 900) 9)],37,4,0,true⟩:=g133
 have A138:=A126.keep (by simp) (fun id h _=>kp134 id h)
 have g139:=(kp134 _ dpb69).trans g127
 have g140:=(kp134 _ dr6b69).trans g128
 obtain⟨w141,N142,M143,p144,l145,e146,E147,hM148,F149⟩:=call_fc (x:=(k,31)) hM136 con19 (⟨⟨_,_,rfl,rfl,rfl⟩,rfl⟩)
 have A151:=A138.ext E147
 have g152:=E147.old g139
 have g153:=E147.old g140
 have g154:=E147.old g133
 have ew141:w141=(i64 (modI k 31)):=F149
 subst ew141
 have X155:=X135.trans E147
 obtain⟨w156,N157,M158,p159,l160,e161,E162,hM163,F164⟩:=call_fc (x:=((quoI k 31),3)) hM148 con19 (⟨⟨_,_,rfl,rfl,rfl⟩,rfl⟩)
 have A166:=A151.ext E162
 have g167:=E162.old g152
 have g168:=E162.old g153
 have g169:=E162.old g154
 have ew156:w156=(i64 (modI (quoI k 31) 3)):=F164
 subst ew156
 have X170:=X155.trans E162
 obtain⟨M171,q172,g173,kp174,X175,hM176,nx177⟩:=store_t (o:=3) (v:=(i64 (IntKind.wrap .i64 ((2147483647:Int)-(modI (quoI k 31) 3))))) (new:= [i64 (modI k N),i64 (modI (quoI k 13) N),i64 (modI (IntKind.wrap .i64 ((modI k N)+(modI (quoI k 13) N))) 2),i64 (IntKind.wrap .i64 ((2147483647:Int)-(modI (quoI k 31) 3)))]) X170 nb69 hM163 dS3 g169 rfl rfl (Nat.zero_le _) (Nat.le_of_ble_eq_true rfl) rfl
 replace g173:M171.get b69=some ⟨[i64 (modI k N),i64 (modI (quoI k 13) N),i64 (modI (IntKind.wrap .i64 ((modI k N)+(modI (quoI k 13) N))) 2),i64 (IntKind.wrap .i64 ((2147483647:Int)-(modI (quoI k 31) 3)))],37,4,0,true⟩:=g173
 have A178:=A166.keep (by simp) (fun id h _=>kp174 id h)
 have g179:=(kp174 _ dpb69).trans g167
 have g180:=(kp174 _ dr6b69).trans g168
 obtain⟨b181,M182,eb183,em184,g185,E186,hM187⟩:=new_t hM176 ⟨[i64 (modI k N),i64 (modI (quoI k 13) N),i64 (modI (IntKind.wrap .i64 ((modI k N)+(modI (quoI k 13) N))) 2),i64 (IntKind.wrap .i64 ((2147483647:Int)-(modI (quoI k 31) 3)))],37,4,0,true⟩
 have nb181:M0.next≤b181:=by rw[←eb183];exact X175.next
 have dpb181:p≠b181:=by have:=Mem.lt_of_get g179;omega
 have dr6b181:r6≠b181:=by have:=Mem.lt_of_get g180;omega
 have db69b181:b69≠b181:=by have:=Mem.lt_of_get g173;omega
 have A188:=A178.new eb183 E186
 have g189:=E186.old g179
 have g190:=E186.old g180
 have g191:=E186.old g173
 have X193:=X175.trans E186
 obtain⟨t194,S195,M196,q197,X198,hM199,A200,kb201,ka202⟩:=accc_append (P:=Try.prog) (sT:=24) (xT:=24) (y:=32) (c:=2) A188 X193 hM187 (by intro x hx;simp only [List.mem_cons,List.not_mem_nil,or_false] at hx;rcases hx with rfl|rfl|rfl|rfl<;>first|exact Mem.lt_of_get g185|exact Mem.lt_of_get g191|exact Mem.lt_of_get g189|exact Mem.lt_of_get g190) (by kernel_rfl) (by kernel_rfl) (by kernel_rfl) (by kernel_rfl) (by decide) (by decide) rfl hl30 g185 (o:=0) (new:= [i64 (modI k N),i64 (modI (quoI k 13) N),i64 (modI (IntKind.wrap .i64 ((modI k N)+(modI (quoI k 13) N))) 2),i64 (IntKind.wrap .i64 ((2147483647:Int)-(modI (quoI k 31) 3)))]) rfl rfl rfl
 have g203:=kb201 _ _ g189 (by simp)
 have g204:=kb201 _ _ g190 (by simp)
 obtain⟨M207,q208,g209,kp210,X211,hM212,nx213⟩:=store_t (o:=1) (v:=S195) (new:= [i64 N,S195]) X198 np hM199 dS24 g203 (by rw[cells_cell A200.isCell];rfl) (by rw[cells_cell A200.isCell];show(isCell _&&true)=true;rw[A200.isCell];rfl) (Nat.zero_le _) (Nat.le_of_ble_eq_true rfl) (by rw[cells_cell A200.isCell];rfl)
 replace g209:M207.get p=some ⟨[i64 N,S195],26,2,0,true⟩:=g209
 have A214:=A200.keep (by simp) (fun id h _=>kp210 id h)
 have g215:=(kp210 _ (Ne.symm dpr6)).trans g204
 have hraw:oR Try.prog [] 100 Try.f10 (q10.loopAt 0) [(1,(sli bb o m c)),(2,(i64 md)),(6,(pt r6 0)),(7,(pt p 0)),(8,(i64 ((i:Int))))] M [ttT 10,ttT 12,ttT 15,ttT 16,ttT 22,ttL 24 (i64 k),ttL 32 (i64 N),ttV 34 (i64 (modI k N)) M11,ttL 42 (i64 N),ttV 44 (i64 (modI (quoI k 13) N)) M26,ttV 50 (i64 (modI (quoI k 170) 5)) M41,ttV 56 (i64 (modI (quoI k 900) 9)) M56,ttV 60 (pt b69 0) (Mem.mk M70.blks M70.next (hides 0 [⟨14,1,M41.next,M56.next⟩,⟨11,1,M26.next,M41.next⟩,⟨8,1,M11.next,M26.next⟩,⟨3,1,M.next,M11.next⟩,⟨2,1,M.next,M.next⟩]++M.hide) M70.log),ttS 62 M82,ttV 66 (i64 (modI md 3)) M103,ttT 69,ttL 73 (i64 (modI k N)),ttL 77 (i64 (modI (quoI k 13) N)),ttV 81 (i64 (modI (IntKind.wrap .i64 ((modI k N)+(modI (quoI k 13) N))) 2)) M118,ttS 85 M131,ttV 89 (i64 (modI k 31)) M143,ttT 92,ttV 98 (i64 (modI (quoI k 31) 3)) M158,ttS 104 M171,ttL 108 S,ttL 110 (.agg ⟨[i64 (modI k N),i64 (modI (quoI k 13) N),i64 (modI (IntKind.wrap .i64 ((modI k N)+(modI (quoI k 13) N))) 2),i64 (IntKind.wrap .i64 ((2147483647:Int)-(modI (quoI k 31) 3)))]⟩),ttV 112 (sli b181 0 1 2) M182,.at 114 ((bif t194 then 1 else 2),.val S195,M196),ttS 118 M207] [1,2,6,7,8]=some (.normal,[some (sli bb o m c),some (i64 md),some (pt r6 0),some (pt p 0),some (i64 (IntKind.wrap .i64 (((i:Int))+(1:Int))))],M207,[qT (decide (((i:Int))<((m:Int)))),qT (decide (((i:Int))<((m:Int)))),qT (decide (((i:Int))<((m:Int)))),qT (decide (((i:Int))<(40:Int))),.q (.inb ((i:Int)) m) (ansB true),qL 3 bb (o+((i:Int):Int).toNat*1) M (i64 k),qL 3 p 0 (Mem.mk M.blks M.next M.hide []) (i64 N),qC 19 [i64 k,i64 N] (Mem.mk M.blks M.next M.hide []) (i64 (modI k N)) M11,qL 3 p 0 (Mem.mk M11.blks M11.next (hides 64 [⟨3,1,M.next,M11.next⟩,⟨2,1,M.next,M.next⟩]++M.hide) M11.log) (i64 N),qT (Nat.blt p M.next),qC 19 [i64 (quoI k 13),i64 N] (Mem.mk M11.blks M11.next M.hide M11.log) (i64 (modI (quoI k 13) N)) M26,qC 19 [i64 (quoI k 170),i64 5] (Mem.mk M26.blks M26.next M.hide M26.log) (i64 (modI (quoI k 170) 5)) M41,qC 19 [i64 (quoI k 900),i64 9] (Mem.mk M41.blks M41.next M.hide M41.log) (i64 (modI (quoI k 900) 9)) M56,.eq (aalloc Try.prog 37 (Mem.mk M56.blks M56.next (hides 0 [⟨14,1,M41.next,M56.next⟩,⟨11,1,M26.next,M41.next⟩,⟨8,1,M11.next,M26.next⟩,⟨3,1,M.next,M11.next⟩,⟨2,1,M.next,M.next⟩]++M.hide) M56.log)) (1,.val (pt b69 0),(Mem.mk M70.blks M70.next (hides 0 [⟨14,1,M41.next,M56.next⟩,⟨11,1,M26.next,M41.next⟩,⟨8,1,M11.next,M26.next⟩,⟨3,1,M.next,M11.next⟩,⟨2,1,M.next,M.next⟩]++M.hide) M70.log)),qS 37 b69 0 (.agg ⟨[i64 (modI k N),i64 (modI (quoI k 13) N),i64 (modI (quoI k 170) 5),i64 (modI (quoI k 900) 9)]⟩) (Mem.mk (Mem.mk M70.blks M70.next (hides 0 [⟨14,1,M41.next,M56.next⟩,⟨11,1,M26.next,M41.next⟩,⟨8,1,M11.next,M26.next⟩,⟨3,1,M.next,M11.next⟩,⟨2,1,M.next,M.next⟩]++M.hide) M70.log).blks (Mem.mk M70.blks M70.next (hides 0 [⟨14,1,M41.next,M56.next⟩,⟨11,1,M26.next,M41.next⟩,⟨8,1,M11.next,M26.next⟩,⟨3,1,M.next,M11.next⟩,⟨2,1,M.next,M.next⟩]++M.hide) M70.log).next M.hide (Mem.mk M70.blks M70.next (hides 0 [⟨14,1,M41.next,M56.next⟩,⟨11,1,M26.next,M41.next⟩,⟨8,1,M11.next,M26.next⟩,⟨3,1,M.next,M11.next⟩,⟨2,1,M.next,M.next⟩]++M.hide) M70.log).log) M82,qT (apartN [p] M82.log),qC 19 [i64 md,i64 3] (Mem.mk M82.blks M82.next M.hide (M82.log++M.log)) (i64 (modI md 3)) M103,qT ((modI md 3)==(0:Int)),qL 3 b69 0 M103 (i64 (modI k N)),qL 3 b69 1 M103 (i64 (modI (quoI k 13) N)),qC 19 [i64 (IntKind.wrap .i64 ((modI k N)+(modI (quoI k 13) N))),i64 2] M103 (i64 (modI (IntKind.wrap .i64 ((modI k N)+(modI (quoI k 13) N))) 2)) M118,qS 3 b69 2 (i64 (modI (IntKind.wrap .i64 ((modI k N)+(modI (quoI k 13) N))) 2)) M118 M131,qC 19 [i64 k,i64 31] M131 (i64 (modI k 31)) M143,qT ((modI k 31)==(0:Int)),qC 19 [i64 (quoI k 31),i64 3] M143 (i64 (modI (quoI k 31) 3)) M158,qS 3 b69 3 (i64 (IntKind.wrap .i64 ((2147483647:Int)-(modI (quoI k 31) 3)))) M158 M171,qL 24 p 1 M171 S,qL 37 b69 0 M171 (.agg ⟨[i64 (modI k N),i64 (modI (quoI k 13) N),i64 (modI (IntKind.wrap .i64 ((modI k N)+(modI (quoI k 13) N))) 2),i64 (IntKind.wrap .i64 ((2147483647:Int)-(modI (quoI k 31) 3)))]⟩),.eq (abuildSlice Try.prog 24 1 [(0,(.agg ⟨[i64 (modI k N),i64 (modI (quoI k 13) N),i64 (modI (IntKind.wrap .i64 ((modI k N)+(modI (quoI k 13) N))) 2),i64 (IntKind.wrap .i64 ((2147483647:Int)-(modI (quoI k 31) 3)))]⟩))] M171) (1,.val (sli b181 0 1 2),M182),.q (.append [24,24] S (sli b181 0 1 2) M182) ((bif t194 then 1 else 2),.val S195,M196),qS 24 p 1 S195 M196 M207]):=by cases t194<;>kernel_rfl
 dsimp only at hraw
 have rw0:Mem.mk M.blks M.next M.hide []=R1:=eR2.symm
 have rw1:Mem.mk M11.blks M11.next M.hide M11.log=M11:=by rw[(show M.hide=M11.hide from((X0).hide.trans (X23).hide.symm))]
 have rw2:Mem.mk M11.blks M11.next (hides 64 [⟨3,1,M.next,M11.next⟩,⟨2,1,M.next,M.next⟩]++M.hide) M11.log=hidx (hides 64 [⟨3,1,M.next,M11.next⟩,⟨2,1,M.next,M.next⟩]) M11:=by rw[(show M.hide=M11.hide from((X0).hide.trans (X23).hide.symm))];rfl
 have rw3:Mem.mk M26.blks M26.next M.hide M26.log=M26:=by rw[(show M.hide=M26.hide from((X0).hide.trans (X38).hide.symm))]
 have rw4:Mem.mk M41.blks M41.next M.hide M41.log=M41:=by rw[(show M.hide=M41.hide from((X0).hide.trans (X53).hide.symm))]
 have rw6:Mem.mk M70.blks M70.next M.hide M70.log=M70:=by rw[(show M.hide=M70.hide from((X0).hide.trans (X81).hide.symm))]
 have rw8:(Mem.mk M82.blks M82.next M.hide (M82.log++M.log))=(Mem.mk M82.blks M82.next M82.hide (M82.log++M.log)):=by rw[(show M.hide=M82.hide from((X0).hide.trans (X86).hide.symm))]
 have rw9:(Mem.mk M82.blks M82.next M82.hide (M82.log++M.log))=M93:=ef94.symm
 try rw[rw0] at hraw
 try rw[rw1] at hraw
 try rw[rw2] at hraw
 try rw[rw3] at hraw
 try rw[rw4] at hraw
 try rw[rw6] at hraw
 try rw[rw8] at hraw
 try rw[rw9] at hraw
 obtain⟨T1,h1,h2⟩:=Rd.told noNumP mixedP (fun B=>sb0 (sbQ 19 Q19 (sbN _))) (fun _ _=>rfl) hraw (hk (bT cc0) (hk (bT cc0) (hk (bT cc0) (hk (bT cc1) (hk (q_inb (by omega) (by simp at cc0;omega)) (hk (q_ld (aload_ext X0 hld0)) (hk (lC dC3 g6 rfl) (hk (q_call rfl p12 l13 e14) (hk (lC dC3 (hidx_get.2 ⟨hides_low (by simp;omega),g20⟩) rfl) (hk (q_lt ltpM) (hk (q_call rfl p27 l28 e29) (hk (q_call rfl p42 l43 e44) (hk (q_call rfl p57 l58 e59) (hk (q_eq (by rw[←eb71,←em72];kernel_rfl) Nat.one_ne_zero) (hk (q_st q83) (hk (q_apart (by rw[lg92];simp<;>omega)) (hk (q_call rfl p104 l105 e106) (hk (bT cc2) (hk (lC dC3 g114 rfl) (hk (lC dC3 g114 rfl) (hk (q_call rfl p119 l120 e121) (hk (q_st q132) (hk (q_call rfl p144 l145 e146) (hk (bT cc3) (hk (q_call rfl p159 l160 e161) (hk (q_st q172) (hk (lC dC24 g179 rfl) (hk (lA ⟨dA37,dS37⟩ g173 rfl) (hk (q_eq (by rw[←eb183,←em184];kernel_rfl) Nat.one_ne_zero) (hk (q_app q197 (by cases t194<;>simp)) (hk (q_st q208) hn)))))))))))))))))))))))))))))))
 exact⟨T1,M207,S195,h1,h2,X211,hM212,g209,g215,A214.less (by intro x hx;simp only [List.mem_cons,List.not_mem_nil,or_false] at hx;rcases hx with rfl|rfl<;>simp)⟩
theorem r90y(p r6 bb o m c i:Nat)(N md k:Int)(S:Value)(l:List E4){M M0:Mem}(hM:MemOk M)(X0:Ext M0 M)(np:M0.next≤p)(gp:M.get p=some ⟨[i64 N,S],26,2,0,true⟩)(gr6h:M.get r6=some ⟨[i64 0,sln],26,2,0,true⟩)(dpr6:p≠r6)(hN62:(decide (0<N)&&decide (N<2^62))=true)(hA:AccC 37 4 M0 [p,r6] l.length ((l.map eRow).flatten) S M)(hl30:l.length<1073741824)(cc0:(decide (((i:Int))<((m:Int))))=true)(cc1:(decide (((i:Int))<(40:Int)))=true)(cc2:((modI md 3)==(0:Int))=true)(cc3:((modI k 31)==(0:Int))=false)(hld0:aload Try.prog 3 ⟨bb,o+((i:Int):Int).toNat*1,none⟩ M0=some (i64 k)): ∃T1 M' S170,Rd Try.prog [] (q10.loopAt 0) Try.f10.ntmps (fr [(1,(sli bb o m c)),(2,(i64 md)),(6,(pt r6 0)),(7,(pt p 0)),(8,(i64 ((i:Int))))]) M .normal T1 M'∧ [1,2,6,7,8].map T1.get= [some (sli bb o m c),some (i64 md),some (pt r6 0),some (pt p 0),some (i64 (IntKind.wrap .i64 (((i:Int))+(1:Int))))]∧Ext M0 M'∧MemOk M'∧M'.get p=some ⟨[i64 N,S170],26,2,0,true⟩∧M'.get r6=some ⟨[i64 0,sln],26,2,0,true⟩∧AccC 37 4 M0 [p,r6] (l.length+1) ((l.map eRow).flatten++ [i64 (modI k N),i64 (modI (quoI k 13) N),i64 (modI (IntKind.wrap .i64 ((modI k N)+(modI (quoI k 13) N))) 2),i64 (modI (quoI k 900) 9)]) S170 M':=by
 obtain⟨R1,eR2⟩: ∃m:Mem,m=Mem.mk M.blks M.next M.hide []:=⟨_,rfl⟩
 have X3:Ext (Mem.mk M0.blks M0.next M0.hide []) R1:=by rw[eR2];exact Ext.aside (X0)
 have lg4:R1.log= []:=by rw[eR2]
 have hM5:MemOk R1:=by rw[eR2];exact MemOk.log hM
 have ltpM:p<M.next:=by have h:=Mem.lt_of_get gp;exact h
 have g6:R1.get p=some ⟨[i64 N,S],26,2,0,true⟩:=by rw[eR2];exact gp
 have ltr6M:r6<M.next:=by have h:=Mem.lt_of_get gr6h;exact h
 have g7:R1.get r6=some ⟨[i64 0,sln],26,2,0,true⟩:=by rw[eR2];exact gr6h
 have A8:=hA.same (M':=R1) (fun id b h=>by rw[eR2];exact h)
 obtain⟨w9,N10,M11,p12,l13,e14,E15,hM16,F17⟩:=call_fc (x:=(k,N)) hM5 con19 (⟨⟨_,_,rfl,rfl,rfl⟩,hN62⟩)
 have A19:=A8.ext E15
 have g20:=E15.old g6
 have g21:=E15.old g7
 have ew9:w9=(i64 (modI k N)):=F17
 subst ew9
 have lg22:M11.log= []:=by rw[←e14];exact lg4
 have X23:=X3.trans E15
 obtain⟨w24,N25,M26,p27,l28,e29,E30,hM31,F32⟩:=call_fc (x:=((quoI k 13),N)) hM16 con19 (⟨⟨_,_,rfl,rfl,rfl⟩,hN62⟩)
 have A34:=A19.ext E30
 have g35:=E30.old g20
 have g36:=E30.old g21
 have ew24:w24=(i64 (modI (quoI k 13) N)):=F32
 subst ew24
 have lg37:M26.log= []:=by rw[←e29];exact lg22
 have X38:=X23.trans E30
 obtain⟨w39,N40,M41,p42,l43,e44,E45,hM46,F47⟩:=call_fc (x:=((quoI k 170),5)) hM31 con19 (⟨⟨_,_,rfl,rfl,rfl⟩,rfl⟩)
 have A49:=A34.ext E45
 have g50:=E45.old g35
 have g51:=E45.old g36
 have ew39:w39=(i64 (modI (quoI k 170) 5)):=F47
 subst ew39
 have lg52:M41.log= []:=by rw[←e44];exact lg37
 have X53:=X38.trans E45
 obtain⟨w54,N55,M56,p57,l58,e59,E60,hM61,F62⟩:=call_fc (x:=((quoI k 900),9)) hM46 con19 (⟨⟨_,_,rfl,rfl,rfl⟩,rfl⟩)
 have A64:=A49.ext E60
 have g65:=E60.old g50
 have g66:=E60.old g51
 have ew54:w54=(i64 (modI (quoI k 900) 9)):=F62
 subst ew54
 have lg67:M56.log= []:=by rw[←e59];exact lg52
 have X68:=X53.trans E60
 obtain⟨b69,M70,eb71,em72,g73,E74,hM75⟩:=new_t hM61 ⟨[i64 0,i64 0,i64 0,i64 0],37,4,0,true⟩
 have nb69:M0.next≤b69:=by rw[←eb71];exact X68.next
 have dpb69:p≠b69:=by have:=Mem.lt_of_get g65;omega
 have dr6b69:r6≠b69:=by have:=Mem.lt_of_get g66;omega
 have A76:=A64.new eb71 E74
 have g77:=E74.old g65
 have g78:=E74.old g66
 have lg79:M70.log= []:=by rw[←em72];exact lg67
 have X81:=X68.trans E74
 obtain⟨M82,q83,g84,kp85,X86,hM87,nx88⟩:=store_t (o:=0) (v:=(.agg ⟨[i64 (modI k N),i64 (modI (quoI k 13) N),i64 (modI (quoI k 170) 5),i64 (modI (quoI k 900) 9)]⟩)) (new:= [i64 (modI k N),i64 (modI (quoI k 13) N),i64 (modI (quoI k 170) 5),i64 (modI (quoI k 900) 9)]) X81 nb69 hM75 dS37 g73 rfl rfl (Nat.zero_le _) (Nat.le_of_ble_eq_true rfl) rfl
 replace g84:M82.get b69=some ⟨[i64 (modI k N),i64 (modI (quoI k 13) N),i64 (modI (quoI k 170) 5),i64 (modI (quoI k 900) 9)],37,4,0,true⟩:=g84
 have A89:=A76.keep (by simp) (fun id h _=>kp85 id h)
 have g90:=(kp85 _ dpb69).trans g77
 have g91:=(kp85 _ dr6b69).trans g78
 have lg92:M82.log= [b69]:=by rw[nx88,lg79]
 obtain⟨M93,ef94⟩: ∃m:Mem,m=(Mem.mk M82.blks M82.next M82.hide (M82.log++M.log)):=⟨_,rfl⟩
 have X95:Ext M0 M93:=by rw[ef94];exact Ext.join (X0) (X86)
 have hM96:MemOk M93:=by rw[ef94];exact hM87
 have g97:M93.get p=some ⟨[i64 N,S],26,2,0,true⟩:=by rw[ef94];exact g90
 have g98:M93.get r6=some ⟨[i64 0,sln],26,2,0,true⟩:=by rw[ef94];exact g91
 have g99:M93.get b69=some ⟨[i64 (modI k N),i64 (modI (quoI k 13) N),i64 (modI (quoI k 170) 5),i64 (modI (quoI k 900) 9)],37,4,0,true⟩:=by rw[ef94];exact g84
 have A100:=A89.same (M':=M93) (fun id b h=>by rw[ef94];exact h)
 obtain⟨w101,N102,M103,p104,l105,e106,E107,hM108,F109⟩:=call_fc (x:=(md,3)) hM96 con19 (⟨⟨_,_,rfl,rfl,rfl⟩,rfl⟩)
 have A111:=A100.ext E107
 have g112:=E107.old g97
 have g113:=E107.old g98
 have g114:=E107.old g99
 have ew101:w101=(i64 (modI md 3)):=F109
 subst ew101
 have X115:=X95.trans E107
 obtain⟨w116,N117,M118,p119,l120,e121,E122,hM123,F124⟩:=call_fc (x:=((IntKind.wrap .i64 ((modI k N)+(modI (quoI k 13) N))),2)) hM108 con19 (⟨⟨_,_,rfl,rfl,rfl⟩,rfl⟩)
 have A126:=A111.ext E122
 have g127:=E122.old g112
 have g128:=E122.old g113
 have g129:=E122.old g114
 have ew116:w116=(i64 (modI (IntKind.wrap .i64 ((modI k N)+(modI (quoI k 13) N))) 2)):=F124
 subst ew116
 have X130:=X115.trans E122
 obtain⟨M131,q132,g133,kp134,X135,hM136,nx137⟩:=store_t (o:=2) (v:=(i64 (modI (IntKind.wrap .i64 ((modI k N)+(modI (quoI k 13) N))) 2))) (new:= [i64 (modI k N),i64 (modI (quoI k 13) N),i64 (modI (IntKind.wrap .i64 ((modI k N)+(modI (quoI k 13) N))) 2),i64 (modI (quoI k 900) 9)]) X130 nb69 hM123 dS3 g129 rfl rfl (Nat.zero_le _) (Nat.le_of_ble_eq_true rfl) rfl
 replace g133:M131.get b69=some ⟨[i64 (modI k N),i64 (modI (quoI k 13) N),i64 (modI (IntKind.wrap .i64 ((modI k N)+(modI (quoI k 13) N))) 2),i64 (modI (quoI k 900) 9)],37,4,0,true⟩:=g133
 have A138:=A126.keep (by simp) (fun id h _=>kp134 id h)
 have g139:=(kp134 _ dpb69).trans g127
 have g140:=(kp134 _ dr6b69).trans g128
 obtain⟨w141,N142,M143,p144,l145,e146,E147,hM148,F149⟩:=call_fc (x:=(k,31)) hM136 con19 (⟨⟨_,_,rfl,rfl,rfl⟩,rfl⟩)
 have A151:=A138.ext E147
 have g152:=E147.old g139
 have g153:=E147.old g140
 have g154:=E147.old g133
 have ew141:w141=(i64 (modI k 31)):=F149
 subst ew141
 have X155:=X135.trans E147
 obtain⟨b156,M157,eb158,em159,g160,E161,hM162⟩:=new_t hM148 ⟨[i64 (modI k N),i64 (modI (quoI k 13) N),i64 (modI (IntKind.wrap .i64 ((modI k N)+(modI (quoI k 13) N))) 2),i64 (modI (quoI k 900) 9)],37,4,0,true⟩
 have nb156:M0.next≤b156:=by rw[←eb158];exact X155.next
 have dpb156:p≠b156:=by have:=Mem.lt_of_get g152;omega
 have dr6b156:r6≠b156:=by have:=Mem.lt_of_get g153;omega
 have db69b156:b69≠b156:=by have:=Mem.lt_of_get g154;omega
 have A163:=A151.new eb158 E161
 have g164:=E161.old g152
 have g165:=E161.old g153
 have g166:=E161.old g154
 have X168:=X155.trans E161
 obtain⟨t169,S170,M171,q172,X173,hM174,A175,kb176,ka177⟩:=accc_append (P:=Try.prog) (sT:=24) (xT:=24) (y:=32) (c:=2) A163 X168 hM162 (by intro x hx;simp only [List.mem_cons,List.not_mem_nil,or_false] at hx;rcases hx with rfl|rfl|rfl|rfl<;>first|exact Mem.lt_of_get g160|exact Mem.lt_of_get g166|exact Mem.lt_of_get g164|exact Mem.lt_of_get g165) (by kernel_rfl) (by kernel_rfl) (by kernel_rfl) (by kernel_rfl) (by decide) (by decide) rfl hl30 g160 (o:=0) (new:= [i64 (modI k N),i64 (modI (quoI k 13) N),i64 (modI (IntKind.wrap .i64 ((modI k N)+(modI (quoI k 13) N))) 2),i64 (modI (quoI k 900) 9)]) rfl rfl rfl
 have g178:=kb176 _ _ g164 (by simp)
 have g179:=kb176 _ _ g165 (by simp)
 obtain⟨M182,q183,g184,kp185,X186,hM187,nx188⟩:=store_t (o:=1) (v:=S170) (new:= [i64 N,S170]) X173 np hM174 dS24 g178 (by rw[cells_cell A175.isCell];rfl) (by rw[cells_cell A175.isCell];show(isCell _&&true)=true;rw[A175.isCell];rfl) (Nat.zero_le _) (Nat.le_of_ble_eq_true rfl) (by rw[cells_cell A175.isCell];rfl)
 replace g184:M182.get p=some ⟨[i64 N,S170],26,2,0,true⟩:=g184
 have A189:=A175.keep (by simp) (fun id h _=>kp185 id h)
 have g190:=(kp185 _ (Ne.symm dpr6)).trans g179
 have hraw:oR Try.prog [] 100 Try.f10 (q10.loopAt 0) [(1,(sli bb o m c)),(2,(i64 md)),(6,(pt r6 0)),(7,(pt p 0)),(8,(i64 ((i:Int))))] M [ttT 10,ttT 12,ttT 15,ttT 16,ttT 22,ttL 24 (i64 k),ttL 32 (i64 N),ttV 34 (i64 (modI k N)) M11,ttL 42 (i64 N),ttV 44 (i64 (modI (quoI k 13) N)) M26,ttV 50 (i64 (modI (quoI k 170) 5)) M41,ttV 56 (i64 (modI (quoI k 900) 9)) M56,ttV 60 (pt b69 0) (Mem.mk M70.blks M70.next (hides 0 [⟨14,1,M41.next,M56.next⟩,⟨11,1,M26.next,M41.next⟩,⟨8,1,M11.next,M26.next⟩,⟨3,1,M.next,M11.next⟩,⟨2,1,M.next,M.next⟩]++M.hide) M70.log),ttS 62 M82,ttV 66 (i64 (modI md 3)) M103,ttT 69,ttL 73 (i64 (modI k N)),ttL 77 (i64 (modI (quoI k 13) N)),ttV 81 (i64 (modI (IntKind.wrap .i64 ((modI k N)+(modI (quoI k 13) N))) 2)) M118,ttS 85 M131,ttV 89 (i64 (modI k 31)) M143,ttF 92,ttL 96 S,ttL 98 (.agg ⟨[i64 (modI k N),i64 (modI (quoI k 13) N),i64 (modI (IntKind.wrap .i64 ((modI k N)+(modI (quoI k 13) N))) 2),i64 (modI (quoI k 900) 9)]⟩),ttV 100 (sli b156 0 1 2) M157,.at 102 ((bif t169 then 1 else 2),.val S170,M171),ttS 106 M182] [1,2,6,7,8]=some (.normal,[some (sli bb o m c),some (i64 md),some (pt r6 0),some (pt p 0),some (i64 (IntKind.wrap .i64 (((i:Int))+(1:Int))))],M182,[qT (decide (((i:Int))<((m:Int)))),qT (decide (((i:Int))<((m:Int)))),qT (decide (((i:Int))<((m:Int)))),qT (decide (((i:Int))<(40:Int))),.q (.inb ((i:Int)) m) (ansB true),qL 3 bb (o+((i:Int):Int).toNat*1) M (i64 k),qL 3 p 0 (Mem.mk M.blks M.next M.hide []) (i64 N),qC 19 [i64 k,i64 N] (Mem.mk M.blks M.next M.hide []) (i64 (modI k N)) M11,qL 3 p 0 (Mem.mk M11.blks M11.next (hides 64 [⟨3,1,M.next,M11.next⟩,⟨2,1,M.next,M.next⟩]++M.hide) M11.log) (i64 N),qT (Nat.blt p M.next),qC 19 [i64 (quoI k 13),i64 N] (Mem.mk M11.blks M11.next M.hide M11.log) (i64 (modI (quoI k 13) N)) M26,qC 19 [i64 (quoI k 170),i64 5] (Mem.mk M26.blks M26.next M.hide M26.log) (i64 (modI (quoI k 170) 5)) M41,qC 19 [i64 (quoI k 900),i64 9] (Mem.mk M41.blks M41.next M.hide M41.log) (i64 (modI (quoI k 900) 9)) M56,.eq (aalloc Try.prog 37 (Mem.mk M56.blks M56.next (hides 0 [⟨14,1,M41.next,M56.next⟩,⟨11,1,M26.next,M41.next⟩,⟨8,1,M11.next,M26.next⟩,⟨3,1,M.next,M11.next⟩,⟨2,1,M.next,M.next⟩]++M.hide) M56.log)) (1,.val (pt b69 0),(Mem.mk M70.blks M70.next (hides 0 [⟨14,1,M41.next,M56.next⟩,⟨11,1,M26.next,M41.next⟩,⟨8,1,M11.next,M26.next⟩,⟨3,1,M.next,M11.next⟩,⟨2,1,M.next,M.next⟩]++M.hide) M70.log)),qS 37 b69 0 (.agg ⟨[i64 (modI k N),i64 (modI (quoI k 13) N),i64 (modI (quoI k 170) 5),i64 (modI (quoI k 900) 9)]⟩) (Mem.mk (Mem.mk M70.blks M70.next (hides 0 [⟨14,1,M41.next,M56.next⟩,⟨11,1,M26.next,M41.next⟩,⟨8,1,M11.next,M26.next⟩,⟨3,1,M.next,M11.next⟩,⟨2,1,M.next,M.next⟩]++M.hide) M70.log).blks (Mem.mk M70.blks M70.next (hides 0 [⟨14,1,M41.next,M56.next⟩,⟨11,1,M26.next,M41.next⟩,⟨8,1,M11.next,M26.next⟩,⟨3,1,M.next,M11.next⟩,⟨2,1,M.next,M.next⟩]++M.hide) M70.log).next M.hide (Mem.mk M70.blks M70.next (hides 0 [⟨14,1,M41.next,M56.next⟩,⟨11,1,M26.next,M41.next⟩,⟨8,1,M11.next,M26.next⟩,⟨3,1,M.next,M11.next⟩,⟨2,1,M.next,M.next⟩]++M.hide) M70.log).log) M82,qT (apartN [p] M82.log),qC 19 [i64 md,i64 3] (Mem.mk M82.blks M82.next M.hide (M82.log++M.log)) (i64 (modI md 3)) M103,qT ((modI md 3)==(0:Int)),qL 3 b69 0 M103 (i64 (modI k N)),qL 3 b69 1 M103 (i64 (modI (quoI k 13) N)),qC 19 [i64 (IntKind.wrap .i64 ((modI k N)+(modI (quoI k 13) N))),i64 2] M103 (i64 (modI (IntKind.wrap .i64 ((modI k N)+(modI (quoI k 13) N))) 2)) M118,qS 3 b69 2 (i64 (modI (IntKind.wrap .i64 ((modI k N)+(modI (quoI k 13) N))) 2)) M118 M131,qC 19 [i64 k,i64 31] M131 (i64 (modI k 31)) M143,qF ((modI k 31)==(0:Int)),qL 24 p 1 M143 S,qL 37 b69 0 M143 (.agg ⟨[i64 (modI k N),i64 (modI (quoI k 13) N),i64 (modI (IntKind.wrap .i64 ((modI k N)+(modI (quoI k 13) N))) 2),i64 (modI (quoI k 900) 9)]⟩),.eq (abuildSlice Try.prog 24 1 [(0,(.agg ⟨[i64 (modI k N),i64 (modI (quoI k 13) N),i64 (modI (IntKind.wrap .i64 ((modI k N)+(modI (quoI k 13) N))) 2),i64 (modI (quoI k 900) 9)]⟩))] M143) (1,.val (sli b156 0 1 2),M157),.q (.append [24,24] S (sli b156 0 1 2) M157) ((bif t169 then 1 else 2),.val S170,M171),qS 24 p 1 S170 M171 M182]):=by cases t169<;>kernel_rfl
 dsimp only at hraw
 have rw0:Mem.mk M.blks M.next M.hide []=R1:=eR2.symm
 have rw1:Mem.mk M11.blks M11.next M.hide M11.log=M11:=by rw[(show M.hide=M11.hide from((X0).hide.trans (X23).hide.symm))]
 have rw2:Mem.mk M11.blks M11.next (hides 64 [⟨3,1,M.next,M11.next⟩,⟨2,1,M.next,M.next⟩]++M.hide) M11.log=hidx (hides 64 [⟨3,1,M.next,M11.next⟩,⟨2,1,M.next,M.next⟩]) M11:=by rw[(show M.hide=M11.hide from((X0).hide.trans (X23).hide.symm))];rfl
 have rw3:Mem.mk M26.blks M26.next M.hide M26.log=M26:=by rw[(show M.hide=M26.hide from((X0).hide.trans (X38).hide.symm))]
 have rw4:Mem.mk M41.blks M41.next M.hide M41.log=M41:=by rw[(show M.hide=M41.hide from((X0).hide.trans (X53).hide.symm))]
 have rw6:Mem.mk M70.blks M70.next M.hide M70.log=M70:=by rw[(show M.hide=M70.hide from((X0).hide.trans (X81).hide.symm))]
 have rw8:(Mem.mk M82.blks M82.next M.hide (M82.log++M.log))=(Mem.mk M82.blks M82.next M82.hide (M82.log++M.log)):=by rw[(show M.hide=M82.hide from((X0).hide.trans (X86).hide.symm))]
 have rw9:(Mem.mk M82.blks M82.next M82.hide (M82.log++M.log))=M93:=ef94.symm
 try rw[rw0] at hraw
 try rw[rw1] at hraw
 try rw[rw2] at hraw
 try rw[rw3] at hraw
 try rw[rw4] at hraw
 try rw[rw6] at hraw
 try rw[rw8] at hraw
 try rw[rw9] at hraw
 obtain⟨T1,h1,h2⟩:=Rd.told noNumP mixedP (fun B=>sb0 (sbQ 19 Q19 (sbN _))) (fun _ _=>rfl) hraw (hk (bT cc0) (hk (bT cc0) (hk (bT cc0) (hk (bT cc1) (hk (q_inb (by omega) (by simp at cc0;omega)) (hk (q_ld (aload_ext X0 hld0)) (hk (lC dC3 g6 rfl) (hk (q_call rfl p12 l13 e14) (hk (lC dC3 (hidx_get.2 ⟨hides_low (by simp;omega),g20⟩) rfl) (hk (q_lt ltpM) (hk (q_call rfl p27 l28 e29) (hk (q_call rfl p42 l43 e44) (hk (q_call rfl p57 l58 e59) (hk (q_eq (by rw[←eb71,←em72];kernel_rfl) Nat.one_ne_zero) (hk (q_st q83) (hk (q_apart (by rw[lg92];simp<;>omega)) (hk (q_call rfl p104 l105 e106) (hk (bT cc2) (hk (lC dC3 g114 rfl) (hk (lC dC3 g114 rfl) (hk (q_call rfl p119 l120 e121) (hk (q_st q132) (hk (q_call rfl p144 l145 e146) (hk (bF cc3) (hk (lC dC24 g152 rfl) (hk (lA ⟨dA37,dS37⟩ g154 rfl) (hk (q_eq (by rw[←eb158,←em159];kernel_rfl) Nat.one_ne_zero) (hk (q_app q172 (by cases t169<;>simp)) (hk (q_st q183) hn)))))))))))))))))))))))))))))
 exact⟨T1,M182,S170,h1,h2,X186,hM187,g184,g190,A189.less (by intro x hx;simp only [List.mem_cons,List.not_mem_nil,or_false] at hx;rcases hx with rfl|rfl<;>simp)⟩
theorem r91z(p r6 bb o m c i:Nat)(N md k:Int)(S:Value)(l:List E4){M M0:Mem}(hM:MemOk M)(X0:Ext M0 M)(np:M0.next≤p)(gp:M.get p=some ⟨[i64 N,S],26,2,0,true⟩)(gr6h:M.get r6=some ⟨[i64 0,sln],26,2,0,true⟩)(dpr6:p≠r6)(hN62:(decide (0<N)&&decide (N<2^62))=true)(hA:AccC 37 4 M0 [p,r6] l.length ((l.map eRow).flatten) S M)(hl30:l.length<1073741824)(cc0:(decide (((i:Int))<((m:Int))))=true)(cc1:(decide (((i:Int))<(40:Int)))=true)(cc2:((modI md 3)==(0:Int))=false)(cc3:((modI md 3)==(1:Int))=true)(cc4:((modI k 31)==(0:Int))=true)(hld0:aload Try.prog 3 ⟨bb,o+((i:Int):Int).toNat*1,none⟩ M0=some (i64 k)): ∃T1 M' S210,Rd Try.prog [] (q10.loopAt 0) Try.f10.ntmps (fr [(1,(sli bb o m c)),(2,(i64 md)),(6,(pt r6 0)),(7,(pt p 0)),(8,(i64 ((i:Int))))]) M .normal T1 M'∧ [1,2,6,7,8].map T1.get= [some (sli bb o m c),some (i64 md),some (pt r6 0),some (pt p 0),some (i64 (IntKind.wrap .i64 (((i:Int))+(1:Int))))]∧Ext M0 M'∧MemOk M'∧M'.get p=some ⟨[i64 N,S210],26,2,0,true⟩∧M'.get r6=some ⟨[i64 0,sln],26,2,0,true⟩∧AccC 37 4 M0 [p,r6] (l.length+1) ((l.map eRow).flatten++ [i64 (modI k N),i64 (modI (quoI k 13) N),i64 (modI (IntKind.wrap .i64 ((modI (quoI k 170) 5)*(modI k N))) 3),i64 (IntKind.wrap .i64 ((2147483647:Int)-(modI (quoI k 31) 3)))]) S210 M':=by
 obtain⟨R1,eR2⟩: ∃m:Mem,m=Mem.mk M.blks M.next M.hide []:=⟨_,rfl⟩
 have X3:Ext (Mem.mk M0.blks M0.next M0.hide []) R1:=by rw[eR2];exact Ext.aside (X0)
 have lg4:R1.log= []:=by rw[eR2]
 have hM5:MemOk R1:=by rw[eR2];exact MemOk.log hM
 have ltpM:p<M.next:=by have h:=Mem.lt_of_get gp;exact h
 have g6:R1.get p=some ⟨[i64 N,S],26,2,0,true⟩:=by rw[eR2];exact gp
 have ltr6M:r6<M.next:=by have h:=Mem.lt_of_get gr6h;exact h
 have g7:R1.get r6=some ⟨[i64 0,sln],26,2,0,true⟩:=by rw[eR2];exact gr6h
 have A8:=hA.same (M':=R1) (fun id b h=>by rw[eR2];exact h)
 obtain⟨w9,N10,M11,p12,l13,e14,E15,hM16,F17⟩:=call_fc (x:=(k,N)) hM5 con19 (⟨⟨_,_,rfl,rfl,rfl⟩,hN62⟩)
 have A19:=A8.ext E15
 have g20:=E15.old g6
 have g21:=E15.old g7
 have ew9:w9=(i64 (modI k N)):=F17
 subst ew9
 have lg22:M11.log= []:=by rw[←e14];exact lg4
 have X23:=X3.trans E15
 obtain⟨w24,N25,M26,p27,l28,e29,E30,hM31,F32⟩:=call_fc (x:=((quoI k 13),N)) hM16 con19 (⟨⟨_,_,rfl,rfl,rfl⟩,hN62⟩)
 have A34:=A19.ext E30
 have g35:=E30.old g20
 have g36:=E30.old g21
 have ew24:w24=(i64 (modI (quoI k 13) N)):=F32
 subst ew24
 have lg37:M26.log= []:=by rw[←e29];exact lg22
 have X38:=X23.trans E30
 obtain⟨w39,N40,M41,p42,l43,e44,E45,hM46,F47⟩:=call_fc (x:=((quoI k 170),5)) hM31 con19 (⟨⟨_,_,rfl,rfl,rfl⟩,rfl⟩)
 have A49:=A34.ext E45
 have g50:=E45.old g35
 have g51:=E45.old g36
 have ew39:w39=(i64 (modI (quoI k 170) 5)):=F47
 subst ew39
 have lg52:M41.log= []:=by rw[←e44];exact lg37
 have X53:=X38.trans E45
 obtain⟨w54,N55,M56,p57,l58,e59,E60,hM61,F62⟩:=call_fc (x:=((quoI k 900),9)) hM46 con19 (⟨⟨_,_,rfl,rfl,rfl⟩,rfl⟩)
 have A64:=A49.ext E60
 have g65:=E60.old g50
 have g66:=E60.old g51
 have ew54:w54=(i64 (modI (quoI k 900) 9)):=F62
 subst ew54
 have lg67:M56.log= []:=by rw[←e59];exact lg52
 have X68:=X53.trans E60
 obtain⟨b69,M70,eb71,em72,g73,E74,hM75⟩:=new_t hM61 ⟨[i64 0,i64 0,i64 0,i64 0],37,4,0,true⟩
 have nb69:M0.next≤b69:=by rw[←eb71];exact X68.next
 have dpb69:p≠b69:=by have:=Mem.lt_of_get g65;omega
 have dr6b69:r6≠b69:=by have:=Mem.lt_of_get g66;omega
 have A76:=A64.new eb71 E74
 have g77:=E74.old g65
 have g78:=E74.old g66
 have lg79:M70.log= []:=by rw[←em72];exact lg67
 have X81:=X68.trans E74
 obtain⟨M82,q83,g84,kp85,X86,hM87,nx88⟩:=store_t (o:=0) (v:=(.agg ⟨[i64 (modI k N),i64 (modI (quoI k 13) N),i64 (modI (quoI k 170) 5),i64 (modI (quoI k 900) 9)]⟩)) (new:= [i64 (modI k N),i64 (modI (quoI k 13) N),i64 (modI (quoI k 170) 5),i64 (modI (quoI k 900) 9)]) X81 nb69 hM75 dS37 g73 rfl rfl (Nat.zero_le _) (Nat.le_of_ble_eq_true rfl) rfl
 replace g84:M82.get b69=some ⟨[i64 (modI k N),i64 (modI (quoI k 13) N),i64 (modI (quoI k 170) 5),i64 (modI (quoI k 900) 9)],37,4,0,true⟩:=g84
 have A89:=A76.keep (by simp) (fun id h _=>kp85 id h)
 have g90:=(kp85 _ dpb69).trans g77
 have g91:=(kp85 _ dr6b69).trans g78
 have lg92:M82.log= [b69]:=by rw[nx88,lg79]
 obtain⟨M93,ef94⟩: ∃m:Mem,m=(Mem.mk M82.blks M82.next M82.hide (M82.log++M.log)):=⟨_,rfl⟩
 have X95:Ext M0 M93:=by rw[ef94];exact Ext.join (X0) (X86)
 have hM96:MemOk M93:=by rw[ef94];exact hM87
 have g97:M93.get p=some ⟨[i64 N,S],26,2,0,true⟩:=by rw[ef94];exact g90
 have g98:M93.get r6=some ⟨[i64 0,sln],26,2,0,true⟩:=by rw[ef94];exact g91
 have g99:M93.get b69=some ⟨[i64 (modI k N),i64 (modI (quoI k 13) N),i64 (modI (quoI k 170) 5),i64 (modI (quoI k 900) 9)],37,4,0,true⟩:=by rw[ef94];exact g84
 have A100:=A89.same (M':=M93) (fun id b h=>by rw[ef94];exact h)
 obtain⟨w101,N102,M103,p104,l105,e106,E107,hM108,F109⟩:=call_fc (x:=(md,3)) hM96 con19 (⟨⟨_,_,rfl,rfl,rfl⟩,rfl⟩)
 have A111:=A100.ext E107
 have g112:=E107.old g97
 have g113:=E107.old g98
 have g114:=E107.old g99
 have ew101:w101=(i64 (modI md 3)):=F109
 subst ew101
 have X115:=X95.trans E107
 obtain⟨w116,N117,M118,p119,l120,e121,E122,hM123,F124⟩:=call_fc (x:=(md,3)) hM108 con19 (⟨⟨_,_,rfl,rfl,rfl⟩,rfl⟩)
 have A126:=A111.ext E122
 have g127:=E122.old g112
 have g128:=E122.old g113
 have g129:=E122.old g114
 have ew116:w116=(i64 (modI md 3)):=F124
 subst ew116
 have X130:=X115.trans E122
 obtain⟨w131,N132,M133,p134,l135,e136,E137,hM138,F139⟩:=call_fc (x:=((IntKind.wrap .i64 ((modI (quoI k 170) 5)*(modI k N))),3)) hM123 con19 (⟨⟨_,_,rfl,rfl,rfl⟩,rfl⟩)
 have A141:=A126.ext E137
 have g142:=E137.old g127
 have g143:=E137.old g128
 have g144:=E137.old g129
 have ew131:w131=(i64 (modI (IntKind.wrap .i64 ((modI (quoI k 170) 5)*(modI k N))) 3)):=F139
 subst ew131
 have X145:=X130.trans E137
 obtain⟨M146,q147,g148,kp149,X150,hM151,nx152⟩:=store_t (o:=2) (v:=(i64 (modI (IntKind.wrap .i64 ((modI (quoI k 170) 5)*(modI k N))) 3))) (new:= [i64 (modI k N),i64 (modI (quoI k 13) N),i64 (modI (IntKind.wrap .i64 ((modI (quoI k 170) 5)*(modI k N))) 3),i64 (modI (quoI k 900) 9)]) X145 nb69 hM138 dS3 g144 rfl rfl (Nat.zero_le _) (Nat.le_of_ble_eq_true rfl) rfl
 replace g148:M146.get b69=some ⟨[i64 (modI k N),i64 (modI (quoI k 13) N),i64 (modI (IntKind.wrap .i64 ((modI (quoI k 170) 5)*(modI k N))) 3),i64 (modI (quoI k 900) 9)],37,4,0,true⟩:=g148
 have A153:=A141.keep (by simp) (fun id h _=>kp149 id h)
 have g154:=(kp149 _ dpb69).trans g142
 have g155:=(kp149 _ dr6b69).trans g143
 obtain⟨w156,N157,M158,p159,l160,e161,E162,hM163,F164⟩:=call_fc (x:=(k,31)) hM151 con19 (⟨⟨_,_,rfl,rfl,rfl⟩,rfl⟩)
 have A166:=A153.ext E162
 have g167:=E162.old g154
 have g168:=E162.old g155
 have g169:=E162.old g148
 have ew156:w156=(i64 (modI k 31)):=F164
 subst ew156
 have X170:=X150.trans E162
 obtain⟨w171,N172,M173,p174,l175,e176,E177,hM178,F179⟩:=call_fc (x:=((quoI k 31),3)) hM163 con19 (⟨⟨_,_,rfl,rfl,rfl⟩,rfl⟩)
 have A181:=A166.ext E177
 have g182:=E177.old g167
 have g183:=E177.old g168
 have g184:=E177.old g169
 have ew171:w171=(i64 (modI (quoI k 31) 3)):=F179
 subst ew171
 have X185:=X170.trans E177
 obtain⟨M186,q187,g188,kp189,X190,hM191,nx192⟩:=store_t (o:=3) (v:=(i64 (IntKind.wrap .i64 ((2147483647:Int)-(modI (quoI k 31) 3))))) (new:= [i64 (modI k N),i64 (modI (quoI k 13) N),i64 (modI (IntKind.wrap .i64 ((modI (quoI k 170) 5)*(modI k N))) 3),i64 (IntKind.wrap .i64 ((2147483647:Int)-(modI (quoI k 31) 3)))]) X185 nb69 hM178 dS3 g184 rfl rfl (Nat.zero_le _) (Nat.le_of_ble_eq_true rfl) rfl
 replace g188:M186.get b69=some ⟨[i64 (modI k N),i64 (modI (quoI k 13) N),i64 (modI (IntKind.wrap .i64 ((modI (quoI k 170) 5)*(modI k N))) 3),i64 (IntKind.wrap .i64 ((2147483647:Int)-(modI (quoI k 31) 3)))],37,4,0,true⟩:=g188
 have A193:=A181.keep (by simp) (fun id h _=>kp189 id h)
 have g194:=(kp189 _ dpb69).trans g182
 have g195:=(kp189 _ dr6b69).trans g183
 obtain⟨b196,M197,eb198,em199,g200,E201,hM202⟩:=new_t hM191 ⟨[i64 (modI k N),i64 (modI (quoI k 13) N),i64 (modI (IntKind.wrap .i64 ((modI (quoI k 170) 5)*(modI k N))) 3),i64 (IntKind.wrap .i64 ((2147483647:Int)-(modI (quoI k 31) 3)))],37,4,0,true⟩
 have nb196:M0.next≤b196:=by rw[←eb198];exact X190.next
 have dpb196:p≠b196:=by have:=Mem.lt_of_get g194;omega
 have dr6b196:r6≠b196:=by have:=Mem.lt_of_get g195;omega
 have db69b196:b69≠b196:=by have:=Mem.lt_of_get g188;omega
 have A203:=A193.new eb198 E201
 have g204:=E201.old g194
 have g205:=E201.old g195
 have g206:=E201.old g188
 have X208:=X190.trans E201
 obtain⟨t209,S210,M211,q212,X213,hM214,A215,kb216,ka217⟩:=accc_append (P:=Try.prog) (sT:=24) (xT:=24) (y:=32) (c:=2) A203 X208 hM202 (by intro x hx;simp only [List.mem_cons,List.not_mem_nil,or_false] at hx;rcases hx with rfl|rfl|rfl|rfl<;>first|exact Mem.lt_of_get g200|exact Mem.lt_of_get g206|exact Mem.lt_of_get g204|exact Mem.lt_of_get g205) (by kernel_rfl) (by kernel_rfl) (by kernel_rfl) (by kernel_rfl) (by decide) (by decide) rfl hl30 g200 (o:=0) (new:= [i64 (modI k N),i64 (modI (quoI k 13) N),i64 (modI (IntKind.wrap .i64 ((modI (quoI k 170) 5)*(modI k N))) 3),i64 (IntKind.wrap .i64 ((2147483647:Int)-(modI (quoI k 31) 3)))]) rfl rfl rfl
 have g218:=kb216 _ _ g204 (by simp)
 have g219:=kb216 _ _ g205 (by simp)
 obtain⟨M222,q223,g224,kp225,X226,hM227,nx228⟩:=store_t (o:=1) (v:=S210) (new:= [i64 N,S210]) X213 np hM214 dS24 g218 (by rw[cells_cell A215.isCell];rfl) (by rw[cells_cell A215.isCell];show(isCell _&&true)=true;rw[A215.isCell];rfl) (Nat.zero_le _) (Nat.le_of_ble_eq_true rfl) (by rw[cells_cell A215.isCell];rfl)
 replace g224:M222.get p=some ⟨[i64 N,S210],26,2,0,true⟩:=g224
 have A229:=A215.keep (by simp) (fun id h _=>kp225 id h)
 have g230:=(kp225 _ (Ne.symm dpr6)).trans g219
 have hraw:oR Try.prog [] 100 Try.f10 (q10.loopAt 0) [(1,(sli bb o m c)),(2,(i64 md)),(6,(pt r6 0)),(7,(pt p 0)),(8,(i64 ((i:Int))))] M [ttT 10,ttT 12,ttT 15,ttT 16,ttT 22,ttL 24 (i64 k),ttL 32 (i64 N),ttV 34 (i64 (modI k N)) M11,ttL 42 (i64 N),ttV 44 (i64 (modI (quoI k 13) N)) M26,ttV 50 (i64 (modI (quoI k 170) 5)) M41,ttV 56 (i64 (modI (quoI k 900) 9)) M56,ttV 60 (pt b69 0) (Mem.mk M70.blks M70.next (hides 0 [⟨14,1,M41.next,M56.next⟩,⟨11,1,M26.next,M41.next⟩,⟨8,1,M11.next,M26.next⟩,⟨3,1,M.next,M11.next⟩,⟨2,1,M.next,M.next⟩]++M.hide) M70.log),ttS 62 M82,ttV 66 (i64 (modI md 3)) M103,ttF 69,ttV 73 (i64 (modI md 3)) M118,ttT 76,ttL 80 (i64 (modI (quoI k 170) 5)),ttL 84 (i64 (modI k N)),ttV 88 (i64 (modI (IntKind.wrap .i64 ((modI (quoI k 170) 5)*(modI k N))) 3)) M133,ttS 92 M146,ttV 96 (i64 (modI k 31)) M158,ttT 99,ttV 105 (i64 (modI (quoI k 31) 3)) M173,ttS 111 M186,ttL 115 S,ttL 117 (.agg ⟨[i64 (modI k N),i64 (modI (quoI k 13) N),i64 (modI (IntKind.wrap .i64 ((modI (quoI k 170) 5)*(modI k N))) 3),i64 (IntKind.wrap .i64 ((2147483647:Int)-(modI (quoI k 31) 3)))]⟩),ttV 119 (sli b196 0 1 2) M197,.at 121 ((bif t209 then 1 else 2),.val S210,M211),ttS 125 M222] [1,2,6,7,8]=some (.normal,[some (sli bb o m c),some (i64 md),some (pt r6 0),some (pt p 0),some (i64 (IntKind.wrap .i64 (((i:Int))+(1:Int))))],M222,[qT (decide (((i:Int))<((m:Int)))),qT (decide (((i:Int))<((m:Int)))),qT (decide (((i:Int))<((m:Int)))),qT (decide (((i:Int))<(40:Int))),.q (.inb ((i:Int)) m) (ansB true),qL 3 bb (o+((i:Int):Int).toNat*1) M (i64 k),qL 3 p 0 (Mem.mk M.blks M.next M.hide []) (i64 N),qC 19 [i64 k,i64 N] (Mem.mk M.blks M.next M.hide []) (i64 (modI k N)) M11,qL 3 p 0 (Mem.mk M11.blks M11.next (hides 64 [⟨3,1,M.next,M11.next⟩,⟨2,1,M.next,M.next⟩]++M.hide) M11.log) (i64 N),qT (Nat.blt p M.next),qC 19 [i64 (quoI k 13),i64 N] (Mem.mk M11.blks M11.next M.hide M11.log) (i64 (modI (quoI k 13) N)) M26,qC 19 [i64 (quoI k 170),i64 5] (Mem.mk M26.blks M26.next M.hide M26.log) (i64 (modI (quoI k 170) 5)) M41,qC 19 [i64 (quoI k 900),i64 9] (Mem.mk M41.blks M41.next M.hide M41.log) (i64 (modI (quoI k 900) 9)) M56,.eq (aalloc Try.prog 37 (Mem.mk M56.blks M56.next (hides 0 [⟨14,1,M41.next,M56.next⟩,⟨11,1,M26.next,M41.next⟩,⟨8,1,M11.next,M26.next⟩,⟨3,1,M.next,M11.next⟩,⟨2,1,M.next,M.next⟩]++M.hide) M56.log)) (1,.val (pt b69 0),(Mem.mk M70.blks M70.next (hides 0 [⟨14,1,M41.next,M56.next⟩,⟨11,1,M26.next,M41.next⟩,⟨8,1,M11.next,M26.next⟩,⟨3,1,M.next,M11.next⟩,⟨2,1,M.next,M.next⟩]++M.hide) M70.log)),qS 37 b69 0 (.agg ⟨[i64 (modI k N),i64 (modI (quoI k 13) N),i64 (modI (quoI k 170) 5),i64 (modI (quoI k 900) 9)]⟩) (Mem.mk (Mem.mk M70.blks M70.next (hides 0 [⟨14,1,M41.next,M56.next⟩,⟨11,1,M26.next,M41.next⟩,⟨8,1,M11.next,M26.next⟩,⟨3,1,M.next,M11.next⟩,⟨2,1,M.next,M.next⟩]++M.hide) M70.log).blks (Mem.mk M70.blks M70.next (hides 0 [⟨14,1,M41.next,M56.next⟩,⟨11,1,M26.next,M41.next⟩,⟨8,1,M11.next,M26.next⟩,⟨3,1,M.next,M11.next⟩,⟨2,1,M.next,M.next⟩]++M.hide) M70.log).next M.hide (Mem.mk M70.blks M70.next (hides 0 [⟨14,1,M41.next,M56.next⟩,⟨11,1,M26.next,M41.next⟩,⟨8,1,M11.next,M26.next⟩,⟨3,1,M.next,M11.next⟩,⟨2,1,M.next,M.next⟩]++M.hide) M70.log).log) M82,qT (apartN [p] M82.log),qC 19 [i64 md,i64 3] (Mem.mk M82.blks M82.next M.hide (M82.log++M.log)) (i64 (modI md 3)) M103,qF ((modI md 3)==(0:Int)),qC 19 [i64 md,i64 3] M103 (i64 (modI md 3)) M118,qT ((modI md 3)==(1:Int)),qL 3 b69 2 M118 (i64 (modI (quoI k 170) 5)),qL 3 b69 0 M118 (i64 (modI k N)),qC 19 [i64 (IntKind.wrap .i64 ((modI (quoI k 170) 5)*(modI k N))),i64 3] M118 (i64 (modI (IntKind.wrap .i64 ((modI (quoI k 170) 5)*(modI k N))) 3)) M133,qS 3 b69 2 (i64 (modI (IntKind.wrap .i64 ((modI (quoI k 170) 5)*(modI k N))) 3)) M133 M146,qC 19 [i64 k,i64 31] M146 (i64 (modI k 31)) M158,qT ((modI k 31)==(0:Int)),qC 19 [i64 (quoI k 31),i64 3] M158 (i64 (modI (quoI k 31) 3)) M173,qS 3 b69 3 (i64 (IntKind.wrap .i64 ((2147483647:Int)-(modI (quoI k 31) 3)))) M173 M186,qL 24 p 1 M186 S,qL 37 b69 0 M186 (.agg ⟨[i64 (modI k N),i64 (modI (quoI k 13) N),i64 (modI (IntKind.wrap .i64 ((modI (quoI k 170) 5)*(modI k N))) 3),i64 (IntKind.wrap .i64 ((2147483647:Int)-(modI (quoI k 31) 3)))]⟩),.eq (abuildSlice Try.prog 24 1 [(0,(.agg ⟨[i64 (modI k N),i64 (modI (quoI k 13) N),i64 (modI (IntKind.wrap .i64 ((modI (quoI k 170) 5)*(modI k N))) 3),i64 (IntKind.wrap .i64 ((2147483647:Int)-(modI (quoI k 31) 3)))]⟩))] M186) (1,.val (sli b196 0 1 2),M197),.q (.append [24,24] S (sli b196 0 1 2) M197) ((bif t209 then 1 else 2),.val S210,M211),qS 24 p 1 S210 M211 M222]):=by cases t209<;>kernel_rfl
 dsimp only at hraw
 have rw0:Mem.mk M.blks M.next M.hide []=R1:=eR2.symm
 have rw1:Mem.mk M11.blks M11.next M.hide M11.log=M11:=by rw[(show M.hide=M11.hide from((X0).hide.trans (X23).hide.symm))]
 have rw2:Mem.mk M11.blks M11.next (hides 64 [⟨3,1,M.next,M11.next⟩,⟨2,1,M.next,M.next⟩]++M.hide) M11.log=hidx (hides 64 [⟨3,1,M.next,M11.next⟩,⟨2,1,M.next,M.next⟩]) M11:=by rw[(show M.hide=M11.hide from((X0).hide.trans (X23).hide.symm))];rfl
 have rw3:Mem.mk M26.blks M26.next M.hide M26.log=M26:=by rw[(show M.hide=M26.hide from((X0).hide.trans (X38).hide.symm))]
 have rw4:Mem.mk M41.blks M41.next M.hide M41.log=M41:=by rw[(show M.hide=M41.hide from((X0).hide.trans (X53).hide.symm))]
 have rw6:Mem.mk M70.blks M70.next M.hide M70.log=M70:=by rw[(show M.hide=M70.hide from((X0).hide.trans (X81).hide.symm))]
 have rw8:(Mem.mk M82.blks M82.next M.hide (M82.log++M.log))=(Mem.mk M82.blks M82.next M82.hide (M82.log++M.log)):=by rw[(show M.hide=M82.hide from((X0).hide.trans (X86).hide.symm))]
 have rw9:(Mem.mk M82.blks M82.next M82.hide (M82.log++M.log))=M93:=ef94.symm
 try rw[rw0] at hraw
 try rw[rw1] at hraw
 try rw[rw2] at hraw
 try rw[rw3] at hraw
 try rw[rw4] at hraw
 try rw[rw6] at hraw
 try rw[rw8] at hraw
 try rw[rw9] at hraw
 obtain⟨T1,h1,h2⟩:=Rd.told noNumP mixedP (fun B=>sb0 (sbQ 19 Q19 (sbN _))) (fun _ _=>rfl) hraw (hk (bT cc0) (hk (bT cc0) (hk (bT cc0) (hk (bT cc1) (hk (q_inb (by omega) (by simp at cc0;omega)) (hk (q_ld (aload_ext X0 hld0)) (hk (lC dC3 g6 rfl) (hk (q_call rfl p12 l13 e14) (hk (lC dC3 (hidx_get.2 ⟨hides_low (by simp;omega),g20⟩) rfl) (hk (q_lt ltpM) (hk (q_call rfl p27 l28 e29) (hk (q_call rfl p42 l43 e44) (hk (q_call rfl p57 l58 e59) (hk (q_eq (by rw[←eb71,←em72];kernel_rfl) Nat.one_ne_zero) (hk (q_st q83) (hk (q_apart (by rw[lg92];simp<;>omega)) (hk (q_call rfl p104 l105 e106) (hk (bF cc2) (hk (q_call rfl p119 l120 e121) (hk (bT cc3) (hk (lC dC3 g129 rfl) (hk (lC dC3 g129 rfl) (hk (q_call rfl p134 l135 e136) (hk (q_st q147) (hk (q_call rfl p159 l160 e161) (hk (bT cc4) (hk (q_call rfl p174 l175 e176) (hk (q_st q187) (hk (lC dC24 g194 rfl) (hk (lA ⟨dA37,dS37⟩ g188 rfl) (hk (q_eq (by rw[←eb198,←em199];kernel_rfl) Nat.one_ne_zero) (hk (q_app q212 (by cases t209<;>simp)) (hk (q_st q223) hn)))))))))))))))))))))))))))))))))
 exact⟨T1,M222,S210,h1,h2,X226,hM227,g224,g230,A229.less (by intro x hx;simp only [List.mem_cons,List.not_mem_nil,or_false] at hx;rcases hx with rfl|rfl<;>simp)⟩
theorem r91y(p r6 bb o m c i:Nat)(N md k:Int)(S:Value)(l:List E4){M M0:Mem}(hM:MemOk M)(X0:Ext M0 M)(np:M0.next≤p)(gp:M.get p=some ⟨[i64 N,S],26,2,0,true⟩)(gr6h:M.get r6=some ⟨[i64 0,sln],26,2,0,true⟩)(dpr6:p≠r6)(hN62:(decide (0<N)&&decide (N<2^62))=true)(hA:AccC 37 4 M0 [p,r6] l.length ((l.map eRow).flatten) S M)(hl30:l.length<1073741824)(cc0:(decide (((i:Int))<((m:Int))))=true)(cc1:(decide (((i:Int))<(40:Int)))=true)(cc2:((modI md 3)==(0:Int))=false)(cc3:((modI md 3)==(1:Int))=true)(cc4:((modI k 31)==(0:Int))=false)(hld0:aload Try.prog 3 ⟨bb,o+((i:Int):Int).toNat*1,none⟩ M0=some (i64 k)): ∃T1 M' S185,Rd Try.prog [] (q10.loopAt 0) Try.f10.ntmps (fr [(1,(sli bb o m c)),(2,(i64 md)),(6,(pt r6 0)),(7,(pt p 0)),(8,(i64 ((i:Int))))]) M .normal T1 M'∧ [1,2,6,7,8].map T1.get= [some (sli bb o m c),some (i64 md),some (pt r6 0),some (pt p 0),some (i64 (IntKind.wrap .i64 (((i:Int))+(1:Int))))]∧Ext M0 M'∧MemOk M'∧M'.get p=some ⟨[i64 N,S185],26,2,0,true⟩∧M'.get r6=some ⟨[i64 0,sln],26,2,0,true⟩∧AccC 37 4 M0 [p,r6] (l.length+1) ((l.map eRow).flatten++ [i64 (modI k N),i64 (modI (quoI k 13) N),i64 (modI (IntKind.wrap .i64 ((modI (quoI k 170) 5)*(modI k N))) 3),i64 (modI (quoI k 900) 9)]) S185 M':=by
 obtain⟨R1,eR2⟩: ∃m:Mem,m=Mem.mk M.blks M.next M.hide []:=⟨_,rfl⟩
 have X3:Ext (Mem.mk M0.blks M0.next M0.hide []) R1:=by rw[eR2];exact Ext.aside (X0)
 have lg4:R1.log= []:=by rw[eR2]
 have hM5:MemOk R1:=by rw[eR2];exact MemOk.log hM
 have ltpM:p<M.next:=by have h:=Mem.lt_of_get gp;exact h
 have g6:R1.get p=some ⟨[i64 N,S],26,2,0,true⟩:=by rw[eR2];exact gp
 have ltr6M:r6<M.next:=by have h:=Mem.lt_of_get gr6h;exact h
 have g7:R1.get r6=some ⟨[i64 0,sln],26,2,0,true⟩:=by rw[eR2];exact gr6h
 have A8:=hA.same (M':=R1) (fun id b h=>by rw[eR2];exact h)
 obtain⟨w9,N10,M11,p12,l13,e14,E15,hM16,F17⟩:=call_fc (x:=(k,N)) hM5 con19 (⟨⟨_,_,rfl,rfl,rfl⟩,hN62⟩)
 have A19:=A8.ext E15
 have g20:=E15.old g6
 have g21:=E15.old g7
 have ew9:w9=(i64 (modI k N)):=F17
 subst ew9
 have lg22:M11.log= []:=by rw[←e14];exact lg4
 have X23:=X3.trans E15
 obtain⟨w24,N25,M26,p27,l28,e29,E30,hM31,F32⟩:=call_fc (x:=((quoI k 13),N)) hM16 con19 (⟨⟨_,_,rfl,rfl,rfl⟩,hN62⟩)
 have A34:=A19.ext E30
 have g35:=E30.old g20
 have g36:=E30.old g21
 have ew24:w24=(i64 (modI (quoI k 13) N)):=F32
 subst ew24
 have lg37:M26.log= []:=by rw[←e29];exact lg22
 have X38:=X23.trans E30
 obtain⟨w39,N40,M41,p42,l43,e44,E45,hM46,F47⟩:=call_fc (x:=((quoI k 170),5)) hM31 con19 (⟨⟨_,_,rfl,rfl,rfl⟩,rfl⟩)
 have A49:=A34.ext E45
 have g50:=E45.old g35
 have g51:=E45.old g36
 have ew39:w39=(i64 (modI (quoI k 170) 5)):=F47
 subst ew39
 have lg52:M41.log= []:=by rw[←e44];exact lg37
 have X53:=X38.trans E45
 obtain⟨w54,N55,M56,p57,l58,e59,E60,hM61,F62⟩:=call_fc (x:=((quoI k 900),9)) hM46 con19 (⟨⟨_,_,rfl,rfl,rfl⟩,rfl⟩)
 have A64:=A49.ext E60
 have g65:=E60.old g50
 have g66:=E60.old g51
 have ew54:w54=(i64 (modI (quoI k 900) 9)):=F62
 subst ew54
 have lg67:M56.log= []:=by rw[←e59];exact lg52
 have X68:=X53.trans E60
 obtain⟨b69,M70,eb71,em72,g73,E74,hM75⟩:=new_t hM61 ⟨[i64 0,i64 0,i64 0,i64 0],37,4,0,true⟩
 have nb69:M0.next≤b69:=by rw[←eb71];exact X68.next
 have dpb69:p≠b69:=by have:=Mem.lt_of_get g65;omega
 have dr6b69:r6≠b69:=by have:=Mem.lt_of_get g66;omega
 have A76:=A64.new eb71 E74
 have g77:=E74.old g65
 have g78:=E74.old g66
 have lg79:M70.log= []:=by rw[←em72];exact lg67
 have X81:=X68.trans E74
 obtain⟨M82,q83,g84,kp85,X86,hM87,nx88⟩:=store_t (o:=0) (v:=(.agg ⟨[i64 (modI k N),i64 (modI (quoI k 13) N),i64 (modI (quoI k 170) 5),i64 (modI (quoI k 900) 9)]⟩)) (new:= [i64 (modI k N),i64 (modI (quoI k 13) N),i64 (modI (quoI k 170) 5),i64 (modI (quoI k 900) 9)]) X81 nb69 hM75 dS37 g73 rfl rfl (Nat.zero_le _) (Nat.le_of_ble_eq_true rfl) rfl
 replace g84:M82.get b69=some ⟨[i64 (modI k N),i64 (modI (quoI k 13) N),i64 (modI (quoI k 170) 5),i64 (modI (quoI k 900) 9)],37,4,0,true⟩:=g84
 have A89:=A76.keep (by simp) (fun id h _=>kp85 id h)
 have g90:=(kp85 _ dpb69).trans g77
 have g91:=(kp85 _ dr6b69).trans g78
 have lg92:M82.log= [b69]:=by rw[nx88,lg79]
 obtain⟨M93,ef94⟩: ∃m:Mem,m=(Mem.mk M82.blks M82.next M82.hide (M82.log++M.log)):=⟨_,rfl⟩
 have X95:Ext M0 M93:=by rw[ef94];exact Ext.join (X0) (X86)
 have hM96:MemOk M93:=by rw[ef94];exact hM87
 have g97:M93.get p=some ⟨[i64 N,S],26,2,0,true⟩:=by rw[ef94];exact g90
 have g98:M93.get r6=some ⟨[i64 0,sln],26,2,0,true⟩:=by rw[ef94];exact g91
 have g99:M93.get b69=some ⟨[i64 (modI k N),i64 (modI (quoI k 13) N),i64 (modI (quoI k 170) 5),i64 (modI (quoI k 900) 9)],37,4,0,true⟩:=by rw[ef94];exact g84
 have A100:=A89.same (M':=M93) (fun id b h=>by rw[ef94];exact h)
 obtain⟨w101,N102,M103,p104,l105,e106,E107,hM108,F109⟩:=call_fc (x:=(md,3)) hM96 con19 (⟨⟨_,_,rfl,rfl,rfl⟩,rfl⟩)
 have A111:=A100.ext E107
 have g112:=E107.old g97
 have g113:=E107.old g98
 have g114:=E107.old g99
 have ew101:w101=(i64 (modI md 3)):=F109
 subst ew101
 have X115:=X95.trans E107
 obtain⟨w116,N117,M118,p119,l120,e121,E122,hM123,F124⟩:=call_fc (x:=(md,3)) hM108 con19 (⟨⟨_,_,rfl,rfl,rfl⟩,rfl⟩)
 have A126:=A111.ext E122
 have g127:=E122.old g112
 have g128:=E122.old g113
 have g129:=E122.old g114
 have ew116:w116=(i64 (modI md 3)):=F124
 subst ew116
 have X130:=X115.trans E122
 obtain⟨w131,N132,M133,p134,l135,e136,E137,hM138,F139⟩:=call_fc (x:=((IntKind.wrap .i64 ((modI (quoI k 170) 5)*(modI k N))),3)) hM123 con19 (⟨⟨_,_,rfl,rfl,rfl⟩,rfl⟩)
 have A141:=A126.ext E137
 have g142:=E137.old g127
 have g143:=E137.old g128
 have g144:=E137.old g129
 have ew131:w131=(i64 (modI (IntKind.wrap .i64 ((modI (quoI k 170) 5)*(modI k N))) 3)):=F139
 subst ew131
 have X145:=X130.trans E137
 obtain⟨M146,q147,g148,kp149,X150,hM151,nx152⟩:=store_t (o:=2) (v:=(i64 (modI (IntKind.wrap .i64 ((modI (quoI k 170) 5)*(modI k N))) 3))) (new:= [i64 (modI k N),i64 (modI (quoI k 13) N),i64 (modI (IntKind.wrap .i64 ((modI (quoI k 170) 5)*(modI k N))) 3),i64 (modI (quoI k 900) 9)]) X145 nb69 hM138 dS3 g144 rfl rfl (Nat.zero_le _) (Nat.le_of_ble_eq_true rfl) rfl
 replace g148:M146.get b69=some ⟨[i64 (modI k N),i64 (modI (quoI k 13) N),i64 (modI (IntKind.wrap .i64 ((modI (quoI k 170) 5)*(modI k N))) 3),i64 (modI (quoI k 900) 9)],37,4,0,true⟩:=g148
 have A153:=A141.keep (by simp) (fun id h _=>kp149 id h)
 have g154:=(kp149 _ dpb69).trans g142
 have g155:=(kp149 _ dr6b69).trans g143
 obtain⟨w156,N157,M158,p159,l160,e161,E162,hM163,F164⟩:=call_fc (x:=(k,31)) hM151 con19 (⟨⟨_,_,rfl,rfl,rfl⟩,rfl⟩)
 have A166:=A153.ext E162
 have g167:=E162.old g154
 have g168:=E162.old g155
 have g169:=E162.old g148
 have ew156:w156=(i64 (modI k 31)):=F164
 subst ew156
 have X170:=X150.trans E162
 obtain⟨b171,M172,eb173,em174,g175,E176,hM177⟩:=new_t hM163 ⟨[i64 (modI k N),i64 (modI (quoI k 13) N),i64 (modI (IntKind.wrap .i64 ((modI (quoI k 170) 5)*(modI k N))) 3),i64 (modI (quoI k 900) 9)],37,4,0,true⟩
 have nb171:M0.next≤b171:=by rw[←eb173];exact X170.next
 have dpb171:p≠b171:=by have:=Mem.lt_of_get g167;omega
 have dr6b171:r6≠b171:=by have:=Mem.lt_of_get g168;omega
 have db69b171:b69≠b171:=by have:=Mem.lt_of_get g169;omega
 have A178:=A166.new eb173 E176
 have g179:=E176.old g167
 have g180:=E176.old g168
 have g181:=E176.old g169
 have X183:=X170.trans E176
 obtain⟨t184,S185,M186,q187,X188,hM189,A190,kb191,ka192⟩:=accc_append (P:=Try.prog) (sT:=24) (xT:=24) (y:=32) (c:=2) A178 X183 hM177 (by intro x hx;simp only [List.mem_cons,List.not_mem_nil,or_false] at hx;rcases hx with rfl|rfl|rfl|rfl<;>first|exact Mem.lt_of_get g175|exact Mem.lt_of_get g181|exact Mem.lt_of_get g179|exact Mem.lt_of_get g180) (by kernel_rfl) (by kernel_rfl) (by kernel_rfl) (by kernel_rfl) (by decide) (by decide) rfl hl30 g175 (o:=0) (new:= [i64 (modI k N),i64 (modI (quoI k 13) N),i64 (modI (IntKind.wrap .i64 ((modI (quoI k 170) 5)*(modI k N))) 3),i64 (modI (quoI k 900) 9)]) rfl rfl rfl
 have g193:=kb191 _ _ g179 (by simp)
 have g194:=kb191 _ _ g180 (by simp)
 obtain⟨M197,q198,g199,kp200,X201,hM202,nx203⟩:=store_t (o:=1) (v:=S185) (new:= [i64 N,S185]) X188 np hM189 dS24 g193 (by rw[cells_cell A190.isCell];rfl) (by rw[cells_cell A190.isCell];show(isCell _&&true)=true;rw[A190.isCell];rfl) (Nat.zero_le _) (Nat.le_of_ble_eq_true rfl) (by rw[cells_cell A190.isCell];rfl)
 replace g199:M197.get p=some ⟨[i64 N,S185],26,2,0,true⟩:=g199
 have A204:=A190.keep (by simp) (fun id h _=>kp200 id h)
 have g205:=(kp200 _ (Ne.symm dpr6)).trans g194
 have hraw:oR Try.prog [] 100 Try.f10 (q10.loopAt 0) [(1,(sli bb o m c)),(2,(i64 md)),(6,(pt r6 0)),(7,(pt p 0)),(8,(i64 ((i:Int))))] M [ttT 10,ttT 12,ttT 15,ttT 16,ttT 22,ttL 24 (i64 k),ttL 32 (i64 N),ttV 34 (i64 (modI k N)) M11,ttL 42 (i64 N),ttV 44 (i64 (modI (quoI k 13) N)) M26,ttV 50 (i64 (modI (quoI k 170) 5)) M41,ttV 56 (i64 (modI (quoI k 900) 9)) M56,ttV 60 (pt b69 0) (Mem.mk M70.blks M70.next (hides 0 [⟨14,1,M41.next,M56.next⟩,⟨11,1,M26.next,M41.next⟩,⟨8,1,M11.next,M26.next⟩,⟨3,1,M.next,M11.next⟩,⟨2,1,M.next,M.next⟩]++M.hide) M70.log),ttS 62 M82,ttV 66 (i64 (modI md 3)) M103,ttF 69,ttV 73 (i64 (modI md 3)) M118,ttT 76,ttL 80 (i64 (modI (quoI k 170) 5)),ttL 84 (i64 (modI k N)),ttV 88 (i64 (modI (IntKind.wrap .i64 ((modI (quoI k 170) 5)*(modI k N))) 3)) M133,ttS 92 M146,ttV 96 (i64 (modI k 31)) M158,ttF 99,ttL 103 S,ttL 105 (.agg ⟨[i64 (modI k N),i64 (modI (quoI k 13) N),i64 (modI (IntKind.wrap .i64 ((modI (quoI k 170) 5)*(modI k N))) 3),i64 (modI (quoI k 900) 9)]⟩),ttV 107 (sli b171 0 1 2) M172,.at 109 ((bif t184 then 1 else 2),.val S185,M186),ttS 113 M197] [1,2,6,7,8]=some (.normal,[some (sli bb o m c),some (i64 md),some (pt r6 0),some (pt p 0),some (i64 (IntKind.wrap .i64 (((i:Int))+(1:Int))))],M197,[qT (decide (((i:Int))<((m:Int)))),qT (decide (((i:Int))<((m:Int)))),qT (decide (((i:Int))<((m:Int)))),qT (decide (((i:Int))<(40:Int))),.q (.inb ((i:Int)) m) (ansB true),qL 3 bb (o+((i:Int):Int).toNat*1) M (i64 k),qL 3 p 0 (Mem.mk M.blks M.next M.hide []) (i64 N),qC 19 [i64 k,i64 N] (Mem.mk M.blks M.next M.hide []) (i64 (modI k N)) M11,qL 3 p 0 (Mem.mk M11.blks M11.next (hides 64 [⟨3,1,M.next,M11.next⟩,⟨2,1,M.next,M.next⟩]++M.hide) M11.log) (i64 N),qT (Nat.blt p M.next),qC 19 [i64 (quoI k 13),i64 N] (Mem.mk M11.blks M11.next M.hide M11.log) (i64 (modI (quoI k 13) N)) M26,qC 19 [i64 (quoI k 170),i64 5] (Mem.mk M26.blks M26.next M.hide M26.log) (i64 (modI (quoI k 170) 5)) M41,qC 19 [i64 (quoI k 900),i64 9] (Mem.mk M41.blks M41.next M.hide M41.log) (i64 (modI (quoI k 900) 9)) M56,.eq (aalloc Try.prog 37 (Mem.mk M56.blks M56.next (hides 0 [⟨14,1,M41.next,M56.next⟩,⟨11,1,M26.next,M41.next⟩,⟨8,1,M11.next,M26.next⟩,⟨3,1,M.next,M11.next⟩,⟨2,1,M.next,M.next⟩]++M.hide) M56.log)) (1,.val (pt b69 0),(Mem.mk M70.blks M70.next (hides 0 [⟨14,1,M41.next,M56.next⟩,⟨11,1,M26.next,M41.next⟩,⟨8,1,M11.next,M26.next⟩,⟨3,1,M.next,M11.next⟩,⟨2,1,M.next,M.next⟩]++M.hide) M70.log)),qS 37 b69 0 (.agg ⟨[i64 (modI k N),i64 (modI (quoI k 13) N),i64 (modI (quoI k 170) 5),i64 (modI (quoI k 900) 9)]⟩) (Mem.mk (Mem.mk M70.blks M70.next (hides 0 [⟨14,1,M41.next,M56.next⟩,⟨11,1,M26.next,M41.next⟩,⟨8,1,M11.next,M26.next⟩,⟨3,1,M.next,M11.next⟩,⟨2,1,M.next,M.next⟩]++M.hide) M70.log).blks (Mem.mk M70.blks M70.next (hides 0 [⟨14,1,M41.next,M56.next⟩,⟨11,1,M26.next,M41.next⟩,⟨8,1,M11.next,M26.next⟩,⟨3,1,M.next,M11.next⟩,⟨2,1,M.next,M.next⟩]++M.hide) M70.log).next M.hide (Mem.mk M70.blks M70.next (hides 0 [⟨14,1,M41.next,M56.next⟩,⟨11,1,M26.next,M41.next⟩,⟨8,1,M11.next,M26.next⟩,⟨3,1,M.next,M11.next⟩,⟨2,1,M.next,M.next⟩]++M.hide) M70.log).log) M82,qT (apartN [p] M82.log),qC 19 [i64 md,i64 3] (Mem.mk M82.blks M82.next M.hide (M82.log++M.log)) (i64 (modI md 3)) M103,qF ((modI md 3)==(0:Int)),qC 19 [i64 md,i64 3] M103 (i64 (modI md 3)) M118,qT ((modI md 3)==(1:Int)),qL 3 b69 2 M118 (i64 (modI (quoI k 170) 5)),qL 3 b69 0 M118 (i64 (modI k N)),qC 19 [i64 (IntKind.wrap .i64 ((modI (quoI k 170) 5)*(modI k N))),i64 3] M118 (i64 (modI (IntKind.wrap .i64 ((modI (quoI k 170) 5)*(modI k N))) 3)) M133,qS 3 b69 2 (i64 (modI (IntKind.wrap .i64 ((modI (quoI k 170) 5)*(modI k N))) 3)) M133 M146,qC 19 [i64 k,i64 31] M146 (i64 (modI k 31)) M158,qF ((modI k 31)==(0:Int)),qL 24 p 1 M158 S,qL 37 b69 0 M158 (.agg ⟨[i64 (modI k N),i64 (modI (quoI k 13) N),i64 (modI (IntKind.wrap .i64 ((modI (quoI k 170) 5)*(modI k N))) 3),i64 (modI (quoI k 900) 9)]⟩),.eq (abuildSlice Try.prog 24 1 [(0,(.agg ⟨[i64 (modI k N),i64 (modI (quoI k 13) N),i64 (modI (IntKind.wrap .i64 ((modI (quoI k 170) 5)*(modI k N))) 3),i64 (modI (quoI k 900) 9)]⟩))] M158) (1,.val (sli b171 0 1 2),M172),.q (.append [24,24] S (sli b171 0 1 2) M172) ((bif t184 then 1 else 2),.val S185,M186),qS 24 p 1 S185 M186 M197]):=by cases t184<;>kernel_rfl
 dsimp only at hraw
 have rw0:Mem.mk M.blks M.next M.hide []=R1:=eR2.symm
 have rw1:Mem.mk M11.blks M11.next M.hide M11.log=M11:=by rw[(show M.hide=M11.hide from((X0).hide.trans (X23).hide.symm))]
 have rw2:Mem.mk M11.blks M11.next (hides 64 [⟨3,1,M.next,M11.next⟩,⟨2,1,M.next,M.next⟩]++M.hide) M11.log=hidx (hides 64 [⟨3,1,M.next,M11.next⟩,⟨2,1,M.next,M.next⟩]) M11:=by rw[(show M.hide=M11.hide from((X0).hide.trans (X23).hide.symm))];rfl
 have rw3:Mem.mk M26.blks M26.next M.hide M26.log=M26:=by rw[(show M.hide=M26.hide from((X0).hide.trans (X38).hide.symm))]
 have rw4:Mem.mk M41.blks M41.next M.hide M41.log=M41:=by rw[(show M.hide=M41.hide from((X0).hide.trans (X53).hide.symm))]
 have rw6:Mem.mk M70.blks M70.next M.hide M70.log=M70:=by rw[(show M.hide=M70.hide from((X0).hide.trans (X81).hide.symm))]
 have rw8:(Mem.mk M82.blks M82.next M.hide (M82.log++M.log))=(Mem.mk M82.blks M82.next M82.hide (M82.log++M.log)):=by rw[(show M.hide=M82.hide from((X0).hide.trans (X86).hide.symm))]
 have rw9:(Mem.mk M82.blks M82.next M82.hide (M82.log++M.log))=M93:=ef94.symm
 try rw[rw0] at hraw
 try rw[rw1] at hraw
 try rw[rw2] at hraw
 try rw[rw3] at hraw
 try rw[rw4] at hraw
 try rw[rw6] at hraw
 try rw[rw8] at hraw
 try rw[rw9] at hraw
 obtain⟨T1,h1,h2⟩:=Rd.told noNumP mixedP (fun B=>sb0 (sbQ 19 Q19 (sbN _))) (fun _ _=>rfl) hraw (hk (bT cc0) (hk (bT cc0) (hk (bT cc0) (hk (bT cc1) (hk (q_inb (by omega) (by simp at cc0;omega)) (hk (q_ld (aload_ext X0 hld0)) (hk (lC dC3 g6 rfl) (hk (q_call rfl p12 l13 e14) (hk (lC dC3 (hidx_get.2 ⟨hides_low (by simp;omega),g20⟩) rfl) (hk (q_lt ltpM) (hk (q_call rfl p27 l28 e29) (hk (q_call rfl p42 l43 e44) (hk (q_call rfl p57 l58 e59) (hk (q_eq (by rw[←eb71,←em72];kernel_rfl) Nat.one_ne_zero) (hk (q_st q83) (hk (q_apart (by rw[lg92];simp<;>omega)) (hk (q_call rfl p104 l105 e106) (hk (bF cc2) (hk (q_call rfl p119 l120 e121) (hk (bT cc3) (hk (lC dC3 g129 rfl) (hk (lC dC3 g129 rfl) (hk (q_call rfl p134 l135 e136) (hk (q_st q147) (hk (q_call rfl p159 l160 e161) (hk (bF cc4) (hk (lC dC24 g167 rfl) (hk (lA ⟨dA37,dS37⟩ g169 rfl) (hk (q_eq (by rw[←eb173,←em174];kernel_rfl) Nat.one_ne_zero) (hk (q_app q187 (by cases t184<;>simp)) (hk (q_st q198) hn)))))))))))))))))))))))))))))))
 exact⟨T1,M197,S185,h1,h2,X201,hM202,g199,g205,A204.less (by intro x hx;simp only [List.mem_cons,List.not_mem_nil,or_false] at hx;rcases hx with rfl|rfl<;>simp)⟩
theorem r92z(p r6 bb o m c i:Nat)(N md k:Int)(S:Value)(l:List E4){M M0:Mem}(hM:MemOk M)(X0:Ext M0 M)(np:M0.next≤p)(gp:M.get p=some ⟨[i64 N,S],26,2,0,true⟩)(gr6h:M.get r6=some ⟨[i64 0,sln],26,2,0,true⟩)(dpr6:p≠r6)(hN62:(decide (0<N)&&decide (N<2^62))=true)(hA:AccC 37 4 M0 [p,r6] l.length ((l.map eRow).flatten) S M)(hl30:l.length<1073741824)(cc0:(decide (((i:Int))<((m:Int))))=true)(cc1:(decide (((i:Int))<(40:Int)))=true)(cc2:((modI md 3)==(0:Int))=false)(cc3:((modI md 3)==(1:Int))=false)(cc4:((modI k 31)==(0:Int))=true)(hld0:aload Try.prog 3 ⟨bb,o+((i:Int):Int).toNat*1,none⟩ M0=some (i64 k)): ∃T1 M' S185,Rd Try.prog [] (q10.loopAt 0) Try.f10.ntmps (fr [(1,(sli bb o m c)),(2,(i64 md)),(6,(pt r6 0)),(7,(pt p 0)),(8,(i64 ((i:Int))))]) M .normal T1 M'∧ [1,2,6,7,8].map T1.get= [some (sli bb o m c),some (i64 md),some (pt r6 0),some (pt p 0),some (i64 (IntKind.wrap .i64 (((i:Int))+(1:Int))))]∧Ext M0 M'∧MemOk M'∧M'.get p=some ⟨[i64 N,S185],26,2,0,true⟩∧M'.get r6=some ⟨[i64 0,sln],26,2,0,true⟩∧AccC 37 4 M0 [p,r6] (l.length+1) ((l.map eRow).flatten++ [i64 (modI k N),i64 (modI (quoI k 13) N),i64 (modI (quoI k 170) 5),i64 (IntKind.wrap .i64 ((2147483647:Int)-(modI (quoI k 31) 3)))]) S185 M':=by
 obtain⟨R1,eR2⟩: ∃m:Mem,m=Mem.mk M.blks M.next M.hide []:=⟨_,rfl⟩
 have X3:Ext (Mem.mk M0.blks M0.next M0.hide []) R1:=by rw[eR2];exact Ext.aside (X0)
 have lg4:R1.log= []:=by rw[eR2]
 have hM5:MemOk R1:=by rw[eR2];exact MemOk.log hM
 have ltpM:p<M.next:=by have h:=Mem.lt_of_get gp;exact h
 have g6:R1.get p=some ⟨[i64 N,S],26,2,0,true⟩:=by rw[eR2];exact gp
 have ltr6M:r6<M.next:=by have h:=Mem.lt_of_get gr6h;exact h
 have g7:R1.get r6=some ⟨[i64 0,sln],26,2,0,true⟩:=by rw[eR2];exact gr6h
 have A8:=hA.same (M':=R1) (fun id b h=>by rw[eR2];exact h)
 obtain⟨w9,N10,M11,p12,l13,e14,E15,hM16,F17⟩:=call_fc (x:=(k,N)) hM5 con19 (⟨⟨_,_,rfl,rfl,rfl⟩,hN62⟩)
 have A19:=A8.ext E15
 have g20:=E15.old g6
 have g21:=E15.old g7
 have ew9:w9=(i64 (modI k N)):=F17
 subst ew9
 have lg22:M11.log= []:=by rw[←e14];exact lg4
 have X23:=X3.trans E15
 obtain⟨w24,N25,M26,p27,l28,e29,E30,hM31,F32⟩:=call_fc (x:=((quoI k 13),N)) hM16 con19 (⟨⟨_,_,rfl,rfl,rfl⟩,hN62⟩)
 have A34:=A19.ext E30
 have g35:=E30.old g20
 have g36:=E30.old g21
 have ew24:w24=(i64 (modI (quoI k 13) N)):=F32
 subst ew24
 have lg37:M26.log= []:=by rw[←e29];exact lg22
 have X38:=X23.trans E30
 obtain⟨w39,N40,M41,p42,l43,e44,E45,hM46,F47⟩:=call_fc (x:=((quoI k 170),5)) hM31 con19 (⟨⟨_,_,rfl,rfl,rfl⟩,rfl⟩)
 have A49:=A34.ext E45
 have g50:=E45.old g35
 have g51:=E45.old g36
 have ew39:w39=(i64 (modI (quoI k 170) 5)):=F47
 subst ew39
 have lg52:M41.log= []:=by rw[←e44];exact lg37
 have X53:=X38.trans E45
 obtain⟨w54,N55,M56,p57,l58,e59,E60,hM61,F62⟩:=call_fc (x:=((quoI k 900),9)) hM46 con19 (⟨⟨_,_,rfl,rfl,rfl⟩,rfl⟩)
 have A64:=A49.ext E60
 have g65:=E60.old g50
 have g66:=E60.old g51
 have ew54:w54=(i64 (modI (quoI k 900) 9)):=F62
 subst ew54
 have lg67:M56.log= []:=by rw[←e59];exact lg52
 have X68:=X53.trans E60
 obtain⟨b69,M70,eb71,em72,g73,E74,hM75⟩:=new_t hM61 ⟨[i64 0,i64 0,i64 0,i64 0],37,4,0,true⟩
 have nb69:M0.next≤b69:=by rw[←eb71];exact X68.next
 have dpb69:p≠b69:=by have:=Mem.lt_of_get g65;omega
 have dr6b69:r6≠b69:=by have:=Mem.lt_of_get g66;omega
 have A76:=A64.new eb71 E74
 have g77:=E74.old g65
 have g78:=E74.old g66
 have lg79:M70.log= []:=by rw[←em72];exact lg67
 have X81:=X68.trans E74
 obtain⟨M82,q83,g84,kp85,X86,hM87,nx88⟩:=store_t (o:=0) (v:=(.agg ⟨[i64 (modI k N),i64 (modI (quoI k 13) N),i64 (modI (quoI k 170) 5),i64 (modI (quoI k 900) 9)]⟩)) (new:= [i64 (modI k N),i64 (modI (quoI k 13) N),i64 (modI (quoI k 170) 5),i64 (modI (quoI k 900) 9)]) X81 nb69 hM75 dS37 g73 rfl rfl (Nat.zero_le _) (Nat.le_of_ble_eq_true rfl) rfl
 replace g84:M82.get b69=some ⟨[i64 (modI k N),i64 (modI (quoI k 13) N),i64 (modI (quoI k 170) 5),i64 (modI (quoI k 900) 9)],37,4,0,true⟩:=g84
 have A89:=A76.keep (by simp) (fun id h _=>kp85 id h)
 have g90:=(kp85 _ dpb69).trans g77
 have g91:=(kp85 _ dr6b69).trans g78
 have lg92:M82.log= [b69]:=by rw[nx88,lg79]
 obtain⟨M93,ef94⟩: ∃m:Mem,m=(Mem.mk M82.blks M82.next M82.hide (M82.log++M.log)):=⟨_,rfl⟩
 have X95:Ext M0 M93:=by rw[ef94];exact Ext.join (X0) (X86)
 have hM96:MemOk M93:=by rw[ef94];exact hM87
 have g97:M93.get p=some ⟨[i64 N,S],26,2,0,true⟩:=by rw[ef94];exact g90
 have g98:M93.get r6=some ⟨[i64 0,sln],26,2,0,true⟩:=by rw[ef94];exact g91
 have g99:M93.get b69=some ⟨[i64 (modI k N),i64 (modI (quoI k 13) N),i64 (modI (quoI k 170) 5),i64 (modI (quoI k 900) 9)],37,4,0,true⟩:=by rw[ef94];exact g84
 have A100:=A89.same (M':=M93) (fun id b h=>by rw[ef94];exact h)
 obtain⟨w101,N102,M103,p104,l105,e106,E107,hM108,F109⟩:=call_fc (x:=(md,3)) hM96 con19 (⟨⟨_,_,rfl,rfl,rfl⟩,rfl⟩)
 have A111:=A100.ext E107
 have g112:=E107.old g97
 have g113:=E107.old g98
 have g114:=E107.old g99
 have ew101:w101=(i64 (modI md 3)):=F109
 subst ew101
 have X115:=X95.trans E107
 obtain⟨w116,N117,M118,p119,l120,e121,E122,hM123,F124⟩:=call_fc (x:=(md,3)) hM108 con19 (⟨⟨_,_,rfl,rfl,rfl⟩,rfl⟩)
 have A126:=A111.ext E122
 have g127:=E122.old g112
 have g128:=E122.old g113
 have g129:=E122.old g114
 have ew116:w116=(i64 (modI md 3)):=F124
 subst ew116
 have X130:=X115.trans E122
 obtain⟨w131,N132,M133,p134,l135,e136,E137,hM138,F139⟩:=call_fc (x:=(k,31)) hM123 con19 (⟨⟨_,_,rfl,rfl,rfl⟩,rfl⟩)
 have A141:=A126.ext E137
 have g142:=E137.old g127
 have g143:=E137.old g128
 have g144:=E137.old g129
 have ew131:w131=(i64 (modI k 31)):=F139
 subst ew131
 have X145:=X130.trans E137
 obtain⟨w146,N147,M148,p149,l150,e151,E152,hM153,F154⟩:=call_fc (x:=((quoI k 31),3)) hM138 con19 (⟨⟨_,_,rfl,rfl,rfl⟩,rfl⟩)
 have A156:=A141.ext E152
 have g157:=E152.old g142
 have g158:=E152.old g143
 have g159:=E152.old g144
 have ew146:w146=(i64 (modI (quoI k 31) 3)):=F154
 subst ew146
 have X160:=X145.trans E152
 obtain⟨M161,q162,g163,kp164,X165,hM166,nx167⟩:=store_t (o:=3) (v:=(i64 (IntKind.wrap .i64 ((2147483647:Int)-(modI (quoI k 31) 3))))) (new:= [i64 (modI k N),i64 (modI (quoI k 13) N),i64 (modI (quoI k 170) 5),i64 (IntKind.wrap .i64 ((2147483647:Int)-(modI (quoI k 31) 3)))]) X160 nb69 hM153 dS3 g159 rfl rfl (Nat.zero_le _) (Nat.le_of_ble_eq_true rfl) rfl
 replace g163:M161.get b69=some ⟨[i64 (modI k N),i64 (modI (quoI k 13) N),i64 (modI (quoI k 170) 5),i64 (IntKind.wrap .i64 ((2147483647:Int)-(modI (quoI k 31) 3)))],37,4,0,true⟩:=g163
 have A168:=A156.keep (by simp) (fun id h _=>kp164 id h)
 have g169:=(kp164 _ dpb69).trans g157
 have g170:=(kp164 _ dr6b69).trans g158
 obtain⟨b171,M172,eb173,em174,g175,E176,hM177⟩:=new_t hM166 ⟨[i64 (modI k N),i64 (modI (quoI k 13) N),i64 (modI (quoI k 170) 5),i64 (IntKind.wrap .i64 ((2147483647:Int)-(modI (quoI k 31) 3)))],37,4,0,true⟩
 have nb171:M0.next≤b171:=by rw[←eb173];exact X165.next
 have dpb171:p≠b171:=by have:=Mem.lt_of_get g169;omega
 have dr6b171:r6≠b171:=by have:=Mem.lt_of_get g170;omega
 have db69b171:b69≠b171:=by have:=Mem.lt_of_get g163;omega
 have A178:=A168.new eb173 E176
 have g179:=E176.old g169
 have g180:=E176.old g170
 have g181:=E176.old g163
 have X183:=X165.trans E176
 obtain⟨t184,S185,M186,q187,X188,hM189,A190,kb191,ka192⟩:=accc_append (P:=Try.prog) (sT:=24) (xT:=24) (y:=32) (c:=2) A178 X183 hM177 (by intro x hx;simp only [List.mem_cons,List.not_mem_nil,or_false] at hx;rcases hx with rfl|rfl|rfl|rfl<;>first|exact Mem.lt_of_get g175|exact Mem.lt_of_get g181|exact Mem.lt_of_get g179|exact Mem.lt_of_get g180) (by kernel_rfl) (by kernel_rfl) (by kernel_rfl) (by kernel_rfl) (by decide) (by decide) rfl hl30 g175 (o:=0) (new:= [i64 (modI k N),i64 (modI (quoI k 13) N),i64 (modI (quoI k 170) 5),i64 (IntKind.wrap .i64 ((2147483647:Int)-(modI (quoI k 31) 3)))]) rfl rfl rfl
 have g193:=kb191 _ _ g179 (by simp)
 have g194:=kb191 _ _ g180 (by simp)
 obtain⟨M197,q198,g199,kp200,X201,hM202,nx203⟩:=store_t (o:=1) (v:=S185) (new:= [i64 N,S185]) X188 np hM189 dS24 g193 (by rw[cells_cell A190.isCell];rfl) (by rw[cells_cell A190.isCell];show(isCell _&&true)=true;rw[A190.isCell];rfl) (Nat.zero_le _) (Nat.le_of_ble_eq_true rfl) (by rw[cells_cell A190.isCell];rfl)
 replace g199:M197.get p=some ⟨[i64 N,S185],26,2,0,true⟩:=g199
 have A204:=A190.keep (by simp) (fun id h _=>kp200 id h)
 have g205:=(kp200 _ (Ne.symm dpr6)).trans g194
 have hraw:oR Try.prog [] 100 Try.f10 (q10.loopAt 0) [(1,(sli bb o m c)),(2,(i64 md)),(6,(pt r6 0)),(7,(pt p 0)),(8,(i64 ((i:Int))))] M [ttT 10,ttT 12,ttT 15,ttT 16,ttT 22,ttL 24 (i64 k),ttL 32 (i64 N),ttV 34 (i64 (modI k N)) M11,ttL 42 (i64 N),ttV 44 (i64 (modI (quoI k 13) N)) M26,ttV 50 (i64 (modI (quoI k 170) 5)) M41,ttV 56 (i64 (modI (quoI k 900) 9)) M56,ttV 60 (pt b69 0) (Mem.mk M70.blks M70.next (hides 0 [⟨14,1,M41.next,M56.next⟩,⟨11,1,M26.next,M41.next⟩,⟨8,1,M11.next,M26.next⟩,⟨3,1,M.next,M11.next⟩,⟨2,1,M.next,M.next⟩]++M.hide) M70.log),ttS 62 M82,ttV 66 (i64 (modI md 3)) M103,ttF 69,ttV 73 (i64 (modI md 3)) M118,ttF 76,ttV 80 (i64 (modI k 31)) M133,ttT 83,ttV 89 (i64 (modI (quoI k 31) 3)) M148,ttS 95 M161,ttL 99 S,ttL 101 (.agg ⟨[i64 (modI k N),i64 (modI (quoI k 13) N),i64 (modI (quoI k 170) 5),i64 (IntKind.wrap .i64 ((2147483647:Int)-(modI (quoI k 31) 3)))]⟩),ttV 103 (sli b171 0 1 2) M172,.at 105 ((bif t184 then 1 else 2),.val S185,M186),ttS 109 M197] [1,2,6,7,8]=some (.normal,[some (sli bb o m c),some (i64 md),some (pt r6 0),some (pt p 0),some (i64 (IntKind.wrap .i64 (((i:Int))+(1:Int))))],M197,[qT (decide (((i:Int))<((m:Int)))),qT (decide (((i:Int))<((m:Int)))),qT (decide (((i:Int))<((m:Int)))),qT (decide (((i:Int))<(40:Int))),.q (.inb ((i:Int)) m) (ansB true),qL 3 bb (o+((i:Int):Int).toNat*1) M (i64 k),qL 3 p 0 (Mem.mk M.blks M.next M.hide []) (i64 N),qC 19 [i64 k,i64 N] (Mem.mk M.blks M.next M.hide []) (i64 (modI k N)) M11,qL 3 p 0 (Mem.mk M11.blks M11.next (hides 64 [⟨3,1,M.next,M11.next⟩,⟨2,1,M.next,M.next⟩]++M.hide) M11.log) (i64 N),qT (Nat.blt p M.next),qC 19 [i64 (quoI k 13),i64 N] (Mem.mk M11.blks M11.next M.hide M11.log) (i64 (modI (quoI k 13) N)) M26,qC 19 [i64 (quoI k 170),i64 5] (Mem.mk M26.blks M26.next M.hide M26.log) (i64 (modI (quoI k 170) 5)) M41,qC 19 [i64 (quoI k 900),i64 9] (Mem.mk M41.blks M41.next M.hide M41.log) (i64 (modI (quoI k 900) 9)) M56,.eq (aalloc Try.prog 37 (Mem.mk M56.blks M56.next (hides 0 [⟨14,1,M41.next,M56.next⟩,⟨11,1,M26.next,M41.next⟩,⟨8,1,M11.next,M26.next⟩,⟨3,1,M.next,M11.next⟩,⟨2,1,M.next,M.next⟩]++M.hide) M56.log)) (1,.val (pt b69 0),(Mem.mk M70.blks M70.next (hides 0 [⟨14,1,M41.next,M56.next⟩,⟨11,1,M26.next,M41.next⟩,⟨8,1,M11.next,M26.next⟩,⟨3,1,M.next,M11.next⟩,⟨2,1,M.next,M.next⟩]++M.hide) M70.log)),qS 37 b69 0 (.agg ⟨[i64 (modI k N),i64 (modI (quoI k 13) N),i64 (modI (quoI k 170) 5),i64 (modI (quoI k 900) 9)]⟩) (Mem.mk (Mem.mk M70.blks M70.next (hides 0 [⟨14,1,M41.next,M56.next⟩,⟨11,1,M26.next,M41.next⟩,⟨8,1,M11.next,M26.next⟩,⟨3,1,M.next,M11.next⟩,⟨2,1,M.next,M.next⟩]++M.hide) M70.log).blks (Mem.mk M70.blks M70.next (hides 0 [⟨14,1,M41.next,M56.next⟩,⟨11,1,M26.next,M41.next⟩,⟨8,1,M11.next,M26.next⟩,⟨3,1,M.next,M11.next⟩,⟨2,1,M.next,M.next⟩]++M.hide) M70.log).next M.hide (Mem.mk M70.blks M70.next (hides 0 [⟨14,1,M41.next,M56.next⟩,⟨11,1,M26.next,M41.next⟩,⟨8,1,M11.next,M26.next⟩,⟨3,1,M.next,M11.next⟩,⟨2,1,M.next,M.next⟩]++M.hide) M70.log).log) M82,qT (apartN [p] M82.log),qC 19 [i64 md,i64 3] (Mem.mk M82.blks M82.next M.hide (M82.log++M.log)) (i64 (modI md 3)) M103,qF ((modI md 3)==(0:Int)),qC 19 [i64 md,i64 3] M103 (i64 (modI md 3)) M118,qF ((modI md 3)==(1:Int)),qC 19 [i64 k,i64 31] M118 (i64 (modI k 31)) M133,qT ((modI k 31)==(0:Int)),qC 19 [i64 (quoI k 31),i64 3] M133 (i64 (modI (quoI k 31) 3)) M148,qS 3 b69 3 (i64 (IntKind.wrap .i64 ((2147483647:Int)-(modI (quoI k 31) 3)))) M148 M161,qL 24 p 1 M161 S,qL 37 b69 0 M161 (.agg ⟨[i64 (modI k N),i64 (modI (quoI k 13) N),i64 (modI (quoI k 170) 5),i64 (IntKind.wrap .i64 ((2147483647:Int)-(modI (quoI k 31) 3)))]⟩),.eq (abuildSlice Try.prog 24 1 [(0,(.agg ⟨[i64 (modI k N),i64 (modI (quoI k 13) N),i64 (modI (quoI k 170) 5),i64 (IntKind.wrap .i64 ((2147483647:Int)-(modI (quoI k 31) 3)))]⟩))] M161) (1,.val (sli b171 0 1 2),M172),.q (.append [24,24] S (sli b171 0 1 2) M172) ((bif t184 then 1 else 2),.val S185,M186),qS 24 p 1 S185 M186 M197]):=by cases t184<;>kernel_rfl
 dsimp only at hraw
 have rw0:Mem.mk M.blks M.next M.hide []=R1:=eR2.symm
 have rw1:Mem.mk M11.blks M11.next M.hide M11.log=M11:=by rw[(show M.hide=M11.hide from((X0).hide.trans (X23).hide.symm))]
 have rw2:Mem.mk M11.blks M11.next (hides 64 [⟨3,1,M.next,M11.next⟩,⟨2,1,M.next,M.next⟩]++M.hide) M11.log=hidx (hides 64 [⟨3,1,M.next,M11.next⟩,⟨2,1,M.next,M.next⟩]) M11:=by rw[(show M.hide=M11.hide from((X0).hide.trans (X23).hide.symm))];rfl
 have rw3:Mem.mk M26.blks M26.next M.hide M26.log=M26:=by rw[(show M.hide=M26.hide from((X0).hide.trans (X38).hide.symm))]
 have rw4:Mem.mk M41.blks M41.next M.hide M41.log=M41:=by rw[(show M.hide=M41.hide from((X0).hide.trans (X53).hide.symm))]
 have rw6:Mem.mk M70.blks M70.next M.hide M70.log=M70:=by rw[(show M.hide=M70.hide from((X0).hide.trans (X81).hide.symm))]
 have rw8:(Mem.mk M82.blks M82.next M.hide (M82.log++M.log))=(Mem.mk M82.blks M82.next M82.hide (M82.log++M.log)):=by rw[(show M.hide=M82.hide from((X0).hide.trans (X86).hide.symm))]
 have rw9:(Mem.mk M82.blks M82.next M82.hide (M82.log++M.log))=M93:=ef94.symm
 try rw[rw0] at hraw
 try rw[rw1] at hraw
 try rw[rw2] at hraw
 try rw[rw3] at hraw
 try rw[rw4] at hraw
 try rw[rw6] at hraw
 try rw[rw8] at hraw
 try rw[rw9] at hraw
 obtain⟨T1,h1,h2⟩:=Rd.told noNumP mixedP (fun B=>sb0 (sbQ 19 Q19 (sbN _))) (fun _ _=>rfl) hraw (hk (bT cc0) (hk (bT cc0) (hk (bT cc0) (hk (bT cc1) (hk (q_inb (by omega) (by simp at cc0;omega)) (hk (q_ld (aload_ext X0 hld0)) (hk (lC dC3 g6 rfl) (hk (q_call rfl p12 l13 e14) (hk (lC dC3 (hidx_get.2 ⟨hides_low (by simp;omega),g20⟩) rfl) (hk (q_lt ltpM) (hk (q_call rfl p27 l28 e29) (hk (q_call rfl p42 l43 e44) (hk (q_call rfl p57 l58 e59) (hk (q_eq (by rw[←eb71,←em72];kernel_rfl) Nat.one_ne_zero) (hk (q_st q83) (hk (q_apart (by rw[lg92];simp<;>omega)) (hk (q_call rfl p104 l105 e106) (hk (bF cc2) (hk (q_call rfl p119 l120 e121) (hk (bF cc3) (hk (q_call rfl p134 l135 e136) (hk (bT cc4) (hk (q_call rfl p149 l150 e151) (hk (q_st q162) (hk (lC dC24 g169 rfl) (hk (lA ⟨dA37,dS37⟩ g163 rfl) (hk (q_eq (by rw[←eb173,←em174];kernel_rfl) Nat.one_ne_zero) (hk (q_app q187 (by cases t184<;>simp)) (hk (q_st q198) hn)))))))))))))))))))))))))))))
 exact⟨T1,M197,S185,h1,h2,X201,hM202,g199,g205,A204.less (by intro x hx;simp only [List.mem_cons,List.not_mem_nil,or_false] at hx;rcases hx with rfl|rfl<;>simp)⟩
theorem r92y(p r6 bb o m c i:Nat)(N md k:Int)(S:Value)(l:List E4){M M0:Mem}(hM:MemOk M)(X0:Ext M0 M)(np:M0.next≤p)(gp:M.get p=some ⟨[i64 N,S],26,2,0,true⟩)(gr6h:M.get r6=some ⟨[i64 0,sln],26,2,0,true⟩)(dpr6:p≠r6)(hN62:(decide (0<N)&&decide (N<2^62))=true)(hA:AccC 37 4 M0 [p,r6] l.length ((l.map eRow).flatten) S M)(hl30:l.length<1073741824)(cc0:(decide (((i:Int))<((m:Int))))=true)(cc1:(decide (((i:Int))<(40:Int)))=true)(cc2:((modI md 3)==(0:Int))=false)(cc3:((modI md 3)==(1:Int))=false)(cc4:((modI k 31)==(0:Int))=false)(hld0:aload Try.prog 3 ⟨bb,o+((i:Int):Int).toNat*1,none⟩ M0=some (i64 k)): ∃T1 M' S160,Rd Try.prog [] (q10.loopAt 0) Try.f10.ntmps (fr [(1,(sli bb o m c)),(2,(i64 md)),(6,(pt r6 0)),(7,(pt p 0)),(8,(i64 ((i:Int))))]) M .normal T1 M'∧ [1,2,6,7,8].map T1.get= [some (sli bb o m c),some (i64 md),some (pt r6 0),some (pt p 0),some (i64 (IntKind.wrap .i64 (((i:Int))+(1:Int))))]∧Ext M0 M'∧MemOk M'∧M'.get p=some ⟨[i64 N,S160],26,2,0,true⟩∧M'.get r6=some ⟨[i64 0,sln],26,2,0,true⟩∧AccC 37 4 M0 [p,r6] (l.length+1) ((l.map eRow).flatten++ [i64 (modI k N),i64 (modI (quoI k 13) N),i64 (modI (quoI k 170) 5),i64 (modI (quoI k 900) 9)]) S160 M':=by
 obtain⟨R1,eR2⟩: ∃m:Mem,m=Mem.mk M.blks M.next M.hide []:=⟨_,rfl⟩
 have X3:Ext (Mem.mk M0.blks M0.next M0.hide []) R1:=by rw[eR2];exact Ext.aside (X0)
 have lg4:R1.log= []:=by rw[eR2]
 have hM5:MemOk R1:=by rw[eR2];exact MemOk.log hM
 have ltpM:p<M.next:=by have h:=Mem.lt_of_get gp;exact h
 have g6:R1.get p=some ⟨[i64 N,S],26,2,0,true⟩:=by rw[eR2];exact gp
 have ltr6M:r6<M.next:=by have h:=Mem.lt_of_get gr6h;exact h
 have g7:R1.get r6=some ⟨[i64 0,sln],26,2,0,true⟩:=by rw[eR2];exact gr6h
 have A8:=hA.same (M':=R1) (fun id b h=>by rw[eR2];exact h)
 obtain⟨w9,N10,M11,p12,l13,e14,E15,hM16,F17⟩:=call_fc (x:=(k,N)) hM5 con19 (⟨⟨_,_,rfl,rfl,rfl⟩,hN62⟩)
 have A19:=A8.ext E15
 have g20:=E15.old g6
 have g21:=E15.old g7
 have ew9:w9=(i64 (modI k N)):=F17
 subst ew9
 have lg22:M11.log= []:=by rw[←e14];exact lg4
 have X23:=X3.trans E15
 obtain⟨w24,N25,M26,p27,l28,e29,E30,hM31,F32⟩:=call_fc (x:=((quoI k 13),N)) hM16 con19 (⟨⟨_,_,rfl,rfl,rfl⟩,hN62⟩)
 have A34:=A19.ext E30
 have g35:=E30.old g20
 have g36:=E30.old g21
 have ew24:w24=(i64 (modI (quoI k 13) N)):=F32
 subst ew24
 have lg37:M26.log= []:=by rw[←e29];exact lg22
 have X38:=X23.trans E30
 obtain⟨w39,N40,M41,p42,l43,e44,E45,hM46,F47⟩:=call_fc (x:=((quoI k 170),5)) hM31 con19 (⟨⟨_,_,rfl,rfl,rfl⟩,rfl⟩)
 have A49:=A34.ext E45
 have g50:=E45.old g35
 have g51:=E45.old g36
 have ew39:w39=(i64 (modI (quoI k 170) 5)):=F47
 subst ew39
 have lg52:M41.log= []:=by rw[←e44];exact lg37
 have X53:=X38.trans E45
 obtain⟨w54,N55,M56,p57,l58,e59,E60,hM61,F62⟩:=call_fc (x:=((quoI k 900),9)) hM46 con19 (⟨⟨_,_,rfl,rfl,rfl⟩,rfl⟩)
 have A64:=A49.ext E60
 have g65:=E60.old g50
 have g66:=E60.old g51
 have ew54:w54=(i64 (modI (quoI k 900) 9)):=F62
 subst ew54
 have lg67:M56.log= []:=by rw[←e59];exact lg52
 have X68:=X53.trans E60
 obtain⟨b69,M70,eb71,em72,g73,E74,hM75⟩:=new_t hM61 ⟨[i64 0,i64 0,i64 0,i64 0],37,4,0,true⟩
 have nb69:M0.next≤b69:=by rw[←eb71];exact X68.next
 have dpb69:p≠b69:=by have:=Mem.lt_of_get g65;omega
 have dr6b69:r6≠b69:=by have:=Mem.lt_of_get g66;omega
 have A76:=A64.new eb71 E74
 have g77:=E74.old g65
 have g78:=E74.old g66
 have lg79:M70.log= []:=by rw[←em72];exact lg67
 have X81:=X68.trans E74
 obtain⟨M82,q83,g84,kp85,X86,hM87,nx88⟩:=store_t (o:=0) (v:=(.agg ⟨[i64 (modI k N),i64 (modI (quoI k 13) N),i64 (modI (quoI k 170) 5),i64 (modI (quoI k 900) 9)]⟩)) (new:= [i64 (modI k N),i64 (modI (quoI k 13) N),i64 (modI (quoI k 170) 5),i64 (modI (quoI k 900) 9)]) X81 nb69 hM75 dS37 g73 rfl rfl (Nat.zero_le _) (Nat.le_of_ble_eq_true rfl) rfl
 replace g84:M82.get b69=some ⟨[i64 (modI k N),i64 (modI (quoI k 13) N),i64 (modI (quoI k 170) 5),i64 (modI (quoI k 900) 9)],37,4,0,true⟩:=g84
 have A89:=A76.keep (by simp) (fun id h _=>kp85 id h)
 have g90:=(kp85 _ dpb69).trans g77
 have g91:=(kp85 _ dr6b69).trans g78
 have lg92:M82.log= [b69]:=by rw[nx88,lg79]
 obtain⟨M93,ef94⟩: ∃m:Mem,m=(Mem.mk M82.blks M82.next M82.hide (M82.log++M.log)):=⟨_,rfl⟩
 have X95:Ext M0 M93:=by rw[ef94];exact Ext.join (X0) (X86)
 have hM96:MemOk M93:=by rw[ef94];exact hM87
 have g97:M93.get p=some ⟨[i64 N,S],26,2,0,true⟩:=by rw[ef94];exact g90
 have g98:M93.get r6=some ⟨[i64 0,sln],26,2,0,true⟩:=by rw[ef94];exact g91
 have g99:M93.get b69=some ⟨[i64 (modI k N),i64 (modI (quoI k 13) N),i64 (modI (quoI k 170) 5),i64 (modI (quoI k 900) 9)],37,4,0,true⟩:=by rw[ef94];exact g84
 have A100:=A89.same (M':=M93) (fun id b h=>by rw[ef94];exact h)
 obtain⟨w101,N102,M103,p104,l105,e106,E107,hM108,F109⟩:=call_fc (x:=(md,3)) hM96 con19 (⟨⟨_,_,rfl,rfl,rfl⟩,rfl⟩)
 have A111:=A100.ext E107
 have g112:=E107.old g97
 have g113:=E107.old g98
 have g114:=E107.old g99
 have ew101:w101=(i64 (modI md 3)):=F109
 subst ew101
 have X115:=X95.trans E107
 obtain⟨w116,N117,M118,p119,l120,e121,E122,hM123,F124⟩:=call_fc (x:=(md,3)) hM108 con19 (⟨⟨_,_,rfl,rfl,rfl⟩,rfl⟩)
 have A126:=A111.ext E122
 have g127:=E122.old g112
 have g128:=E122.old g113
 have g129:=E122.old g114
 have ew116:w116=(i64 (modI md 3)):=F124
 subst ew116
 have X130:=X115.trans E122
 obtain⟨w131,N132,M133,p134,l135,e136,E137,hM138,F139⟩:=call_fc (x:=(k,31)) hM123 con19 (⟨⟨_,_,rfl,rfl,rfl⟩,rfl⟩)
 have A141:=A126.ext E137
 have g142:=E137.old g127
 have g143:=E137.old g128
 have g144:=E137.old g129
 have ew131:w131=(i64 (modI k 31)):=F139
 subst ew131
 have X145:=X130.trans E137
 obtain⟨b146,M147,eb148,em149,g150,E151,hM152⟩:=new_t hM138 ⟨[i64 (modI k N),i64 (modI (quoI k 13) N),i64 (modI (quoI k 170) 5),i64 (modI (quoI k 900) 9)],37,4,0,true⟩
 have nb146:M0.next≤b146:=by rw[←eb148];exact X145.next
 have dpb146:p≠b146:=by have:=Mem.lt_of_get g142;omega
 have dr6b146:r6≠b146:=by have:=Mem.lt_of_get g143;omega
 have db69b146:b69≠b146:=by have:=Mem.lt_of_get g144;omega
 have A153:=A141.new eb148 E151
 have g154:=E151.old g142
 have g155:=E151.old g143
 have g156:=E151.old g144
 have X158:=X145.trans E151
 obtain⟨t159,S160,M161,q162,X163,hM164,A165,kb166,ka167⟩:=accc_append (P:=Try.prog) (sT:=24) (xT:=24) (y:=32) (c:=2) A153 X158 hM152 (by intro x hx;simp only [List.mem_cons,List.not_mem_nil,or_false] at hx;rcases hx with rfl|rfl|rfl|rfl<;>first|exact Mem.lt_of_get g150|exact Mem.lt_of_get g156|exact Mem.lt_of_get g154|exact Mem.lt_of_get g155) (by kernel_rfl) (by kernel_rfl) (by kernel_rfl) (by kernel_rfl) (by decide) (by decide) rfl hl30 g150 (o:=0) (new:= [i64 (modI k N),i64 (modI (quoI k 13) N),i64 (modI (quoI k 170) 5),i64 (modI (quoI k 900) 9)]) rfl rfl rfl
 have g168:=kb166 _ _ g154 (by simp)
 have g169:=kb166 _ _ g155 (by simp)
 obtain⟨M172,q173,g174,kp175,X176,hM177,nx178⟩:=store_t (o:=1) (v:=S160) (new:= [i64 N,S160]) X163 np hM164 dS24 g168 (by rw[cells_cell A165.isCell];rfl) (by rw[cells_cell A165.isCell];show(isCell _&&true)=true;rw[A165.isCell];rfl) (Nat.zero_le _) (Nat.le_of_ble_eq_true rfl) (by rw[cells_cell A165.isCell];rfl)
 replace g174:M172.get p=some ⟨[i64 N,S160],26,2,0,true⟩:=g174
 have A179:=A165.keep (by simp) (fun id h _=>kp175 id h)
 have g180:=(kp175 _ (Ne.symm dpr6)).trans g169
 have hraw:oR Try.prog [] 100 Try.f10 (q10.loopAt 0) [(1,(sli bb o m c)),(2,(i64 md)),(6,(pt r6 0)),(7,(pt p 0)),(8,(i64 ((i:Int))))] M [ttT 10,ttT 12,ttT 15,ttT 16,ttT 22,ttL 24 (i64 k),ttL 32 (i64 N),ttV 34 (i64 (modI k N)) M11,ttL 42 (i64 N),ttV 44 (i64 (modI (quoI k 13) N)) M26,ttV 50 (i64 (modI (quoI k 170) 5)) M41,ttV 56 (i64 (modI (quoI k 900) 9)) M56,ttV 60 (pt b69 0) (Mem.mk M70.blks M70.next (hides 0 [⟨14,1,M41.next,M56.next⟩,⟨11,1,M26.next,M41.next⟩,⟨8,1,M11.next,M26.next⟩,⟨3,1,M.next,M11.next⟩,⟨2,1,M.next,M.next⟩]++M.hide) M70.log),ttS 62 M82,ttV 66 (i64 (modI md 3)) M103,ttF 69,ttV 73 (i64 (modI md 3)) M118,ttF 76,ttV 80 (i64 (modI k 31)) M133,ttF 83,ttL 87 S,ttL 89 (.agg ⟨[i64 (modI k N),i64 (modI (quoI k 13) N),i64 (modI (quoI k 170) 5),i64 (modI (quoI k 900) 9)]⟩),ttV 91 (sli b146 0 1 2) M147,.at 93 ((bif t159 then 1 else 2),.val S160,M161),ttS 97 M172] [1,2,6,7,8]=some (.normal,[some (sli bb o m c),some (i64 md),some (pt r6 0),some (pt p 0),some (i64 (IntKind.wrap .i64 (((i:Int))+(1:Int))))],M172,[qT (decide (((i:Int))<((m:Int)))),qT (decide (((i:Int))<((m:Int)))),qT (decide (((i:Int))<((m:Int)))),qT (decide (((i:Int))<(40:Int))),.q (.inb ((i:Int)) m) (ansB true),qL 3 bb (o+((i:Int):Int).toNat*1) M (i64 k),qL 3 p 0 (Mem.mk M.blks M.next M.hide []) (i64 N),qC 19 [i64 k,i64 N] (Mem.mk M.blks M.next M.hide []) (i64 (modI k N)) M11,qL 3 p 0 (Mem.mk M11.blks M11.next (hides 64 [⟨3,1,M.next,M11.next⟩,⟨2,1,M.next,M.next⟩]++M.hide) M11.log) (i64 N),qT (Nat.blt p M.next),qC 19 [i64 (quoI k 13),i64 N] (Mem.mk M11.blks M11.next M.hide M11.log) (i64 (modI (quoI k 13) N)) M26,qC 19 [i64 (quoI k 170),i64 5] (Mem.mk M26.blks M26.next M.hide M26.log) (i64 (modI (quoI k 170) 5)) M41,qC 19 [i64 (quoI k 900),i64 9] (Mem.mk M41.blks M41.next M.hide M41.log) (i64 (modI (quoI k 900) 9)) M56,.eq (aalloc Try.prog 37 (Mem.mk M56.blks M56.next (hides 0 [⟨14,1,M41.next,M56.next⟩,⟨11,1,M26.next,M41.next⟩,⟨8,1,M11.next,M26.next⟩,⟨3,1,M.next,M11.next⟩,⟨2,1,M.next,M.next⟩]++M.hide) M56.log)) (1,.val (pt b69 0),(Mem.mk M70.blks M70.next (hides 0 [⟨14,1,M41.next,M56.next⟩,⟨11,1,M26.next,M41.next⟩,⟨8,1,M11.next,M26.next⟩,⟨3,1,M.next,M11.next⟩,⟨2,1,M.next,M.next⟩]++M.hide) M70.log)),qS 37 b69 0 (.agg ⟨[i64 (modI k N),i64 (modI (quoI k 13) N),i64 (modI (quoI k 170) 5),i64 (modI (quoI k 900) 9)]⟩) (Mem.mk (Mem.mk M70.blks M70.next (hides 0 [⟨14,1,M41.next,M56.next⟩,⟨11,1,M26.next,M41.next⟩,⟨8,1,M11.next,M26.next⟩,⟨3,1,M.next,M11.next⟩,⟨2,1,M.next,M.next⟩]++M.hide) M70.log).blks (Mem.mk M70.blks M70.next (hides 0 [⟨14,1,M41.next,M56.next⟩,⟨11,1,M26.next,M41.next⟩,⟨8,1,M11.next,M26.next⟩,⟨3,1,M.next,M11.next⟩,⟨2,1,M.next,M.next⟩]++M.hide) M70.log).next M.hide (Mem.mk M70.blks M70.next (hides 0 [⟨14,1,M41.next,M56.next⟩,⟨11,1,M26.next,M41.next⟩,⟨8,1,M11.next,M26.next⟩,⟨3,1,M.next,M11.next⟩,⟨2,1,M.next,M.next⟩]++M.hide) M70.log).log) M82,qT (apartN [p] M82.log),qC 19 [i64 md,i64 3] (Mem.mk M82.blks M82.next M.hide (M82.log++M.log)) (i64 (modI md 3)) M103,qF ((modI md 3)==(0:Int)),qC 19 [i64 md,i64 3] M103 (i64 (modI md 3)) M118,qF ((modI md 3)==(1:Int)),qC 19 [i64 k,i64 31] M118 (i64 (modI k 31)) M133,qF ((modI k 31)==(0:Int)),qL 24 p 1 M133 S,qL 37 b69 0 M133 (.agg ⟨[i64 (modI k N),i64 (modI (quoI k 13) N),i64 (modI (quoI k 170) 5),i64 (modI (quoI k 900) 9)]⟩),.eq (abuildSlice Try.prog 24 1 [(0,(.agg ⟨[i64 (modI k N),i64 (modI (quoI k 13) N),i64 (modI (quoI k 170) 5),i64 (modI (quoI k 900) 9)]⟩))] M133) (1,.val (sli b146 0 1 2),M147),.q (.append [24,24] S (sli b146 0 1 2) M147) ((bif t159 then 1 else 2),.val S160,M161),qS 24 p 1 S160 M161 M172]):=by cases t159<;>kernel_rfl
 dsimp only at hraw
 have rw0:Mem.mk M.blks M.next M.hide []=R1:=eR2.symm
 have rw1:Mem.mk M11.blks M11.next M.hide M11.log=M11:=by rw[(show M.hide=M11.hide from((X0).hide.trans (X23).hide.symm))]
 have rw2:Mem.mk M11.blks M11.next (hides 64 [⟨3,1,M.next,M11.next⟩,⟨2,1,M.next,M.next⟩]++M.hide) M11.log=hidx (hides 64 [⟨3,1,M.next,M11.next⟩,⟨2,1,M.next,M.next⟩]) M11:=by rw[(show M.hide=M11.hide from((X0).hide.trans (X23).hide.symm))];rfl
 have rw3:Mem.mk M26.blks M26.next M.hide M26.log=M26:=by rw[(show M.hide=M26.hide from((X0).hide.trans (X38).hide.symm))]
 have rw4:Mem.mk M41.blks M41.next M.hide M41.log=M41:=by rw[(show M.hide=M41.hide from((X0).hide.trans (X53).hide.symm))]
 have rw6:Mem.mk M70.blks M70.next M.hide M70.log=M70:=by rw[(show M.hide=M70.hide from((X0).hide.trans (X81).hide.symm))]
 have rw8:(Mem.mk M82.blks M82.next M.hide (M82.log++M.log))=(Mem.mk M82.blks M82.next M82.hide (M82.log++M.log)):=by rw[(show M.hide=M82.hide from((X0).hide.trans (X86).hide.symm))]
 have rw9:(Mem.mk M82.blks M82.next M82.hide (M82.log++M.log))=M93:=ef94.symm
 try rw[rw0] at hraw
 try rw[rw1] at hraw
 try rw[rw2] at hraw
 try rw[rw3] at hraw
 try rw[rw4] at hraw
 try rw[rw6] at hraw
 try rw[rw8] at hraw
 try rw[rw9] at hraw
 obtain⟨T1,h1,h2⟩:=Rd.told noNumP mixedP (fun B=>sb0 (sbQ 19 Q19 (sbN _))) (fun _ _=>rfl) hraw (hk (bT cc0) (hk (bT cc0) (hk (bT cc0) (hk (bT cc1) (hk (q_inb (by omega) (by simp at cc0;omega)) (hk (q_ld (aload_ext X0 hld0)) (hk (lC dC3 g6 rfl) (hk (q_call rfl p12 l13 e14) (hk (lC dC3 (hidx_get.2 ⟨hides_low (by simp;omega),g20⟩) rfl) (hk (q_lt ltpM) (hk (q_call rfl p27 l28 e29) (hk (q_call rfl p42 l43 e44) (hk (q_call rfl p57 l58 e59) (hk (q_eq (by rw[←eb71,←em72];kernel_rfl) Nat.one_ne_zero) (hk (q_st q83) (hk (q_apart (by rw[lg92];simp<;>omega)) (hk (q_call rfl p104 l105 e106) (hk (bF cc2) (hk (q_call rfl p119 l120 e121) (hk (bF cc3) (hk (q_call rfl p134 l135 e136) (hk (bF cc4) (hk (lC dC24 g142 rfl) (hk (lA ⟨dA37,dS37⟩ g144 rfl) (hk (q_eq (by rw[←eb148,←em149];kernel_rfl) Nat.one_ne_zero) (hk (q_app q162 (by cases t159<;>simp)) (hk (q_st q173) hn)))))))))))))))))))))))))))
 exact⟨T1,M172,S160,h1,h2,X176,hM177,g174,g180,A179.less (by intro x hx;simp only [List.mem_cons,List.not_mem_nil,or_false] at hx;rcases hx with rfl|rfl<;>simp)⟩
theorem r9xa(p r6:Nat)(a:Option Addr)(m c i:Nat)(md:Int){M:Mem}(hln:a.isNone=true→m=0∧c=0)(cc0:(decide (((i:Int))<((m:Int))))=true)(cc1:(decide (((i:Int))<(40:Int)))=false): ∃T1,Rd Try.prog [] (q10.loopAt 0) Try.f10.ntmps (fr [(1,(.slice a m c)),(2,(i64 md)),(6,(pt r6 0)),(7,(pt p 0)),(8,(i64 ((i:Int))))]) M (.exit 0) T1 M∧ [6,7].map T1.get= [some (pt r6 0),some (pt p 0)]:=by
 have hraw:oR Try.prog [] 60 Try.f10 (q10.loopAt 0) [(1,(.slice a m c)),(2,(i64 md)),(6,(pt r6 0)),(7,(pt p 0)),(8,(i64 ((i:Int))))] M [ttT 5,ttT 10,ttT 12,ttT 15,ttF 16] [6,7]=some ((.exit 0),[some (pt r6 0),some (pt p 0)],M,[.ln a m c,qT (decide (((i:Int))<((m:Int)))),qT (decide (((i:Int))<((m:Int)))),qT (decide (((i:Int))<((m:Int)))),qF (decide (((i:Int))<(40:Int)))]):=by kernel_rfl
 obtain⟨T1,h1,h2⟩:=Rd.told noNumP mixedP (specs_none Try.prog) (fun _ _=>rfl) hraw (hk (lN hln) (hk (bT cc0) (hk (bT cc0) (hk (bT cc0) (hk (bF cc1) hn)))))
 exact⟨T1,h1,h2⟩
theorem r9xb(p r6:Nat)(a:Option Addr)(m c i:Nat)(md:Int){M:Mem}(hln:a.isNone=true→m=0∧c=0)(cc0:(decide (((i:Int))<((m:Int))))=false): ∃T1,Rd Try.prog [] (q10.loopAt 0) Try.f10.ntmps (fr [(1,(.slice a m c)),(2,(i64 md)),(6,(pt r6 0)),(7,(pt p 0)),(8,(i64 ((i:Int))))]) M (.exit 0) T1 M∧ [6,7].map T1.get= [some (pt r6 0),some (pt p 0)]:=by
 have hraw:oR Try.prog [] 60 Try.f10 (q10.loopAt 0) [(1,(.slice a m c)),(2,(i64 md)),(6,(pt r6 0)),(7,(pt p 0)),(8,(i64 ((i:Int))))] M [ttT 5,ttF 10,ttF 12,ttF 15] [6,7]=some ((.exit 0),[some (pt r6 0),some (pt p 0)],M,[.ln a m c,qF (decide (((i:Int))<((m:Int)))),qF (decide (((i:Int))<((m:Int)))),qF (decide (((i:Int))<((m:Int))))]):=by kernel_rfl
 obtain⟨T1,h1,h2⟩:=Rd.told noNumP mixedP (specs_none Try.prog) (fun _ _=>rfl) hraw (hk (lN hln) (hk (bF cc0) (hk (bF cc0) (hk (bF cc0) hn))))
 exact⟨T1,h1,h2⟩
def MkE(M0 M:Mem)(p r6:Nat)(N:Int)(l:List E4):Prop:= ∃S,M.get p=some ⟨[i64 N,S],26,2,0,true⟩∧AccC 37 4 M0 [p,r6] l.length ((l.map eRow).flatten) S M
theorem step9(p r6 bb o m c i:Nat)(N md k:Int){l:List E4}{M M0:Mem}(hM:MemOk M)(X0:Ext M0 M)(np:M0.next≤p)(hE:MkE M0 M p r6 N l)(gr6h:M.get r6=some ⟨[i64 0,sln],26,2,0,true⟩)(dpr6:p≠r6)(hN62:(decide (0<N)&&decide (N<2^62))=true)(hl:l.length<1073741824)(hi:i<m)(h40:i<40)(hld:aload Try.prog 3 ⟨bb,o+((i:Int):Int).toNat*1,none⟩ M0=some (i64 k)):
  ∃T1 M',Rd Try.prog [] (q10.loopAt 0) Try.f10.ntmps (fr [(1,(sli bb o m c)),(2,(i64 md)),(6,(pt r6 0)),(7,(pt p 0)),(8,(i64 ((i:Int))))]) M .normal T1 M'∧ [1,2,6,7,8].map T1.get= [some (sli bb o m c),some (i64 md),some (pt r6 0),some (pt p 0),some (i64 (IntKind.wrap .i64 (((i:Int))+(1:Int))))]∧Ext M0 M'∧MemOk M'∧MkE M0 M' p r6 N (l++ [edgeM N md k])∧M'.get r6=some ⟨[i64 0,sln],26,2,0,true⟩:=by
 obtain⟨S,gp,hS⟩:=hE
 have hc:decide ((i:Int)<(m:Int))=true:=decide_eq_true (by omega)
 have hc4:decide ((i:Int)<(40:Int))=true:=decide_eq_true (by omega)
 have fin: ∀{S':Value} {M':Mem} {es:List Value},es=eRow (edgeM N md k)→M'.get p=some ⟨[i64 N,S'],26,2,0,true⟩→AccC 37 4 M0 [p,r6] (l.length+1) ((l.map eRow).flatten++es) S' M'→MkE M0 M' p r6 N (l++ [edgeM N md k]):=fun{S' M' es} he h5 h7=>by
  subst he
  refine⟨S',h5,?_⟩
  rw[List.length_append,List.map_append,List.flatten_append]
  simpa using h7
 cases hm0:(modI md 3)==(0:Int) with
 |true=>
  cases hz:(modI k 31)==(0:Int) with
  |true=>
   obtain⟨T1,M',S',h1,h2,h3,h4,h5,h6,h7⟩:=r90z p r6 bb o m c i N md k S l hM X0 np gp gr6h dpr6 hN62 hS hl hc hc4 hm0 hz hld
   exact⟨T1,M',h1,h2,h3,h4,fin (by simp only [edgeM,hm0,hz,cond_true,cond_false]) h5 h7,h6⟩
  |false=>
   obtain⟨T1,M',S',h1,h2,h3,h4,h5,h6,h7⟩:=r90y p r6 bb o m c i N md k S l hM X0 np gp gr6h dpr6 hN62 hS hl hc hc4 hm0 hz hld
   exact⟨T1,M',h1,h2,h3,h4,fin (by simp only [edgeM,hm0,hz,cond_true,cond_false]) h5 h7,h6⟩
 |false=>
  cases hm1:(modI md 3)==(1:Int) with
  |true=>
   cases hz:(modI k 31)==(0:Int) with
   |true=>
    obtain⟨T1,M',S',h1,h2,h3,h4,h5,h6,h7⟩:=r91z p r6 bb o m c i N md k S l hM X0 np gp gr6h dpr6 hN62 hS hl hc hc4 hm0 hm1 hz hld
    exact⟨T1,M',h1,h2,h3,h4,fin (by simp only [edgeM,hm0,hm1,hz,cond_true,cond_false]) h5 h7,h6⟩
   |false=>
    obtain⟨T1,M',S',h1,h2,h3,h4,h5,h6,h7⟩:=r91y p r6 bb o m c i N md k S l hM X0 np gp gr6h dpr6 hN62 hS hl hc hc4 hm0 hm1 hz hld
    exact⟨T1,M',h1,h2,h3,h4,fin (by simp only [edgeM,hm0,hm1,hz,cond_true,cond_false]) h5 h7,h6⟩
  |false=>
   cases hz:(modI k 31)==(0:Int) with
   |true=>
    obtain⟨T1,M',S',h1,h2,h3,h4,h5,h6,h7⟩:=r92z p r6 bb o m c i N md k S l hM X0 np gp gr6h dpr6 hN62 hS hl hc hc4 hm0 hm1 hz hld
    exact⟨T1,M',h1,h2,h3,h4,fin (by simp only [edgeM,hm0,hm1,hz,cond_true,cond_false]) h5 h7,h6⟩
   |false=>
    obtain⟨T1,M',S',h1,h2,h3,h4,h5,h6,h7⟩:=r92y p r6 bb o m c i N md k S l hM X0 np gp gr6h dpr6 hN62 hS hl hc hc4 hm0 hm1 hz hld
    exact⟨T1,M',h1,h2,h3,h4,fin (by simp only [edgeM,hm0,hm1,hz,cond_true,cond_false]) h5 h7,h6⟩
theorem loop9{p r6:Nat}{a:Option Addr}{c:Nat}{N md:Int}{ns:List Int}{M0 M:Mem}(hM:MemOk M)(X:Ext M0 M)(hs:pInts ns (.slice a ns.length c) M0)(np:M0.next≤p)(gp:M.get p=some ⟨[i64 N,sln],26,2,0,true⟩)(gr6h:M.get r6=some ⟨[i64 0,sln],26,2,0,true⟩)(dpr6:p≠r6)(hN62:(decide (0<N)&&decide (N<2^62))=true):
  ∃M',LoopR Try.prog [] (q10.loopAt 0) Try.f10.ntmps (fr [(1,.slice a ns.length c),(2,i64 md),(6,pt r6 0),(7,pt p 0),(8,i64 ((0:Nat):Int))]) M (.exit 0) (fr [(6,pt r6 0),(7,pt p 0)]) M'∧Ext M0 M'∧MemOk M'∧M'.get r6=some ⟨[i64 0,sln],26,2,0,true⟩∧MkE M0 M' p r6 N ((ns.take 40).map (edgeM N md)):=by
 have hlen:=hs.len
 obtain⟨_,M',h1,h2,h3,h4,h5⟩:=LoopR.for (P:=Try.prog) (GL:= []) (b:=q10.loopAt 0) (nt:=Try.f10.ntmps) (id:=0) (σ:=Unit) (n:=(ns.take 40).length) (Inv:=fun i _ M1=>Ext M0 M1∧MemOk M1∧M1.get r6=some ⟨[i64 0,sln],26,2,0,true⟩∧MkE M0 M1 p r6 N ((ns.take i).map (edgeM N md)))
  (F:=fun i _=> [(1,.slice a ns.length c),(2,i64 md),(6,pt r6 0),(7,pt p 0),(8,i64 ((i:Nat):Int))])
  (O:=fun _=> [(6,pt r6 0),(7,pt p 0)])
  (by
   rintro i _ M1 hi ⟨X1,hM1,hg6,hE⟩
   rw[List.length_take] at hi
   obtain⟨bb,o,rfl,_⟩:=form_pos hs (by omega)
   have ht:ns[i]?=some ns[i]:=List.getElem?_eq_getElem (by omega)
   obtain⟨T1,M2,h1,h2,h3,h4,h5,h6⟩:=step9 p r6 bb o ns.length c i N md ns[i] hM1 X1 np hE hg6 dpr6 hN62 (by simp;omega) (by omega) (by omega) (ld_one (P:=Try.prog) (ty:=3) hs ht rfl dC3)
   rw[wrap_succ (by omega)] at h2
   refine⟨(),T1,M2,h1,h2,h3,h4,h6,?_⟩
   rw[List.take_succ_eq_append_getElem (by omega),List.map_append]
   exact h5)
  (by
   rintro _ M1 ⟨X1,hM1,hg6,hE⟩
   by_cases h:ns.length≤40
   ·rw[List.take_of_length_le h]
    exact r9xb p r6 a ns.length c ns.length md hs.ln (decide_eq_false (by omega))
   ·rw[List.length_take,Nat.min_eq_left (by omega)]
    exact r9xa p r6 a ns.length c 40 md hs.ln (decide_eq_true (by omega)) (decide_eq_false (by omega)))
  (ns.take 40).length 0 (by omega) (s:=()) (M:=M) ⟨X,hM,gr6h,sln,gp,.inl ⟨rfl,rfl,rfl⟩⟩
 refine⟨M',h1,h2,h3,h4,?_⟩
 rw[List.length_take,←List.take_take,List.take_length] at h5
 exact h5
theorem rK10:Try.f10.results= #[.cell 6 26]:=by kernel_rfl
theorem w9_raw(size:Int)(ans:Option Addr)(cns:Nat)(ns:List Int)(md:Int)(M:Mem)(b1:Nat)(M2:Mem)(M12:Mem)(b22:Nat)(M23:Mem)(M32:Mem)(S40:Value)(M43:Mem)(M48:Mem):oT Try.prog [0] 60 Try.f10 q10 [i64 size,.slice ans ns.length cns,i64 md] M [ttV 1 (pt b1 0) M2,ttV 5 (i64 (modI size 12)) M12,ttV 11 (pt b22 0) M23,ttS 13 M32,.blk 16 [1,2,6,7,8] .normal (fr [(6,(pt b1 0)),(7,(pt b22 0))]) M43,ttL 18 (.agg ⟨[i64 ((nMk size:Int)),S40]⟩),ttS 20 M48] 6=some (.ret,some (pt b1 0),M48,[.eq (aalloc Try.prog 26 M) (1,.val (pt b1 0),M2),qC 19 [i64 size,i64 12] M2 (i64 (modI size 12)) M12,.eq (aalloc Try.prog 26 M12) (1,.val (pt b22 0),M23),qS 26 b22 0 (.agg ⟨[i64 (IntKind.wrap .i64 ((1:Int)+(modI size 12))),sln]⟩) M23 M32,.blk 0 (.loop (q10.loopAt 0)) Try.f10.ntmps [1,2,6,7,8] [some (.slice ans ns.length cns),some (i64 md),some (pt b1 0),some (pt b22 0),some (i64 0)] M32 .normal (fr [(6,(pt b1 0)),(7,(pt b22 0))]) M43,qL 26 b22 0 M43 (.agg ⟨[i64 ((nMk size:Int)),S40]⟩),qS 26 b1 0 (.agg ⟨[i64 ((nMk size:Int)),S40]⟩) M43 M48]):=by kernel_rfl
end Go.Proofs.Ytdaglldahidmbaa
