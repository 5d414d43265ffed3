/-
  Package hier: each of its laws for every argument; no conditions. The last text states which.
-/
import Derived.Test.YtdaglldahidmbaaGAmMemo
import Derived.Test.YtdaglldahidmbaaGAmTn
import Derived.Test.YtdaglldahidmbaaGVB
import Derived.Test.YtdaglldahidmbaaGVPC
set_option linter.unusedVariables false
set_option linter.unusedSimpArgs false
open Go Go.Am Go.Proofs
namespace Go.Proofs.Ytdaglldahidmbaa
set_option maxRecDepth 100000
def Kr(k:Nat):Memo:=⟨[sli 0 0 1 2,i64 k],[⟨[i64 (-1)],3,1,0,true⟩],sli 1 0 k (k+1),[1],[⟨List.replicate k (i64 (-1)),3,1,0,true⟩]⟩
def RpOk(k:Nat):Prop:=memoRun Try.prog (specsB [] []) 300 44 (Kr k)=some ((Kr k).v0,(Kr k).news.map some,true)
theorem rp1:RpOk 1∧RpOk (1*1*5):=⟨by unfold RpOk;kernel_rfl,by unfold RpOk;kernel_rfl⟩
theorem rp2:RpOk 2∧RpOk (2*2*5):=⟨by unfold RpOk;kernel_rfl,by unfold RpOk;kernel_rfl⟩
theorem rp3:RpOk 3∧RpOk (3*3*5):=⟨by unfold RpOk;kernel_rfl,by unfold RpOk;kernel_rfl⟩
theorem rp4:RpOk 4∧RpOk (4*4*5):=⟨by unfold RpOk;kernel_rfl,by unfold RpOk;kernel_rfl⟩
theorem rp5:RpOk 5∧RpOk (5*5*5):=⟨by unfold RpOk;kernel_rfl,by unfold RpOk;kernel_rfl⟩
theorem rp6:RpOk 6∧RpOk (6*6*5):=⟨by unfold RpOk;kernel_rfl,by unfold RpOk;kernel_rfl⟩
theorem rp7:RpOk 7∧RpOk (7*7*5):=⟨by unfold RpOk;kernel_rfl,by unfold RpOk;kernel_rfl⟩
theorem rp8:RpOk 8∧RpOk (8*8*5):=⟨by unfold RpOk;kernel_rfl,by unfold RpOk;kernel_rfl⟩
theorem rp9:RpOk 9∧RpOk (9*9*5):=⟨by unfold RpOk;kernel_rfl,by unfold RpOk;kernel_rfl⟩
theorem rp10:RpOk 10∧RpOk (10*10*5):=⟨by unfold RpOk;kernel_rfl,by unfold RpOk;kernel_rfl⟩
theorem rp11:RpOk 11∧RpOk (11*11*5):=⟨by unfold RpOk;kernel_rfl,by unfold RpOk;kernel_rfl⟩
theorem rp12:RpOk 12∧RpOk (12*12*5):=⟨by unfold RpOk;kernel_rfl,by unfold RpOk;kernel_rfl⟩
theorem rp13:RpOk 13∧RpOk (13*13*5):=⟨by unfold RpOk;kernel_rfl,by unfold RpOk;kernel_rfl⟩
theorem rp14:RpOk 14∧RpOk (14*14*5):=⟨by unfold RpOk;kernel_rfl,by unfold RpOk;kernel_rfl⟩
theorem rp15:RpOk 15∧RpOk (15*15*5):=⟨by unfold RpOk;kernel_rfl,by unfold RpOk;kernel_rfl⟩
theorem rp16:RpOk 16∧RpOk (16*16*5):=⟨by unfold RpOk;kernel_rfl,by unfold RpOk;kernel_rfl⟩
theorem rp17:RpOk 17∧RpOk (17*17*5):=⟨by unfold RpOk;kernel_rfl,by unfold RpOk;kernel_rfl⟩
theorem rp18:RpOk 18∧RpOk (18*18*5):=⟨by unfold RpOk;kernel_rfl,by unfold RpOk;kernel_rfl⟩
theorem rp19:RpOk 19∧RpOk (19*19*5):=⟨by unfold RpOk;kernel_rfl,by unfold RpOk;kernel_rfl⟩
theorem rp20:RpOk 20∧RpOk (20*20*5):=⟨by unfold RpOk;kernel_rfl,by unfold RpOk;kernel_rfl⟩
theorem rp21:RpOk 21∧RpOk (21*21*5):=⟨by unfold RpOk;kernel_rfl,by unfold RpOk;kernel_rfl⟩
theorem rp22:RpOk 22∧RpOk (22*22*5):=⟨by unfold RpOk;kernel_rfl,by unfold RpOk;kernel_rfl⟩
theorem rp23:RpOk 23∧RpOk (23*23*5):=⟨by unfold RpOk;kernel_rfl,by unfold RpOk;kernel_rfl⟩
theorem rp24:RpOk 24∧RpOk (24*24*5):=⟨by unfold RpOk;kernel_rfl,by unfold RpOk;kernel_rfl⟩
theorem rp_all(n:Nat)(h:1≤n∧n≤24):RpOk n∧RpOk (n*n*5):=by
 have h2:n=1∨n=2∨n=3∨n=4∨n=5∨n=6∨n=7∨n=8∨n=9∨n=10∨n=11∨n=12∨n=13∨n=14∨n=15∨n=16∨n=17∨n=18∨n=19∨n=20∨n=21∨n=22∨n=23∨n=24:=by omega
 rcases h2 with rfl|rfl|rfl|rfl|rfl|rfl|rfl|rfl|rfl|rfl|rfl|rfl|rfl|rfl|rfl|rfl|rfl|rfl|rfl|rfl|rfl|rfl|rfl|rfl
 ·exact rp1
 ·exact rp2
 ·exact rp3
 ·exact rp4
 ·exact rp5
 ·exact rp6
 ·exact rp7
 ·exact rp8
 ·exact rp9
 ·exact rp10
 ·exact rp11
 ·exact rp12
 ·exact rp13
 ·exact rp14
 ·exact rp15
 ·exact rp16
 ·exact rp17
 ·exact rp18
 ·exact rp19
 ·exact rp20
 ·exact rp21
 ·exact rp22
 ·exact rp23
 ·exact rp24
theorem gm{b k:Nat}{M:Mem}(hg:M.get b=some ⟨[i64 (-1)],3,1,0,true⟩):gMemo (Kr k) [sli b 0 1 2,i64 k] M=some (sli M.next 0 k (k+1),M.alloc ⟨List.replicate k (i64 (-1)),3,1,0,true⟩):=by
 have h1:addrsL [sli b 0 1 2,i64 k]= [b]:=rfl
 have t1:toTgt (mvIn 0 [b]) b=some 0:=by simp [mvIn,toTgt,Nat.beq_refl]
 have h2:renL (mvIn 0 [b]) [sli b 0 1 2,i64 k]=some (Kr k).args0:=by
  simp only [renL,renV,renAddr,t1]
  rfl
 have h3:vsEq (Kr k).args0 (Kr k).args0=true:=by
  simp only [Kr,vsEq,vEq,addrEq,i64,Nat.beq_refl]
  simp
 have h4:blksEq M [b] (Kr k).blks=true:=by
  simp only [Kr,blksEq,hg]
  rfl
 have t2:toTgt (mvNew M.next (Kr k).newsS) 1=some M.next:=by simp [Kr,mvNew,toTgt]
 have h5:renV (mvNew M.next (Kr k).newsS) (Kr k).v0=some (sli M.next 0 k (k+1)):=by
  show renV (mvNew M.next (Kr k).newsS) (sli 1 0 k (k+1))=_
  simp only [renV,renAddr,t2]
 unfold gMemo
 rw[h1,h2,h4,h5]
 show(bif Go.Am.distinct [b]&&vsEq (Kr k).args0 (Kr k).args0&&true then _ else none)=_
 rw[h3]
 rfl
def pRep(k nx:Nat)(v:Value)(M:Mem):Prop:= ∃b,v=sli b 0 k (k+1)∧nx≤b∧M.get b=some ⟨List.replicate k (i64 (-1)),3,1,0,true⟩
instance:AQ pRep:=⟨fun hE ⟨b,h1,h2,h3⟩=>⟨b,h1,h2,hE _ _ h3⟩⟩
def pOne(_:Unit)(v:Value)(M:Mem):Prop:= ∃b,v=sli b 0 1 2∧M.get b=some ⟨[i64 (-1)],3,1,0,true⟩
instance:AP pOne:=⟨fun _ _=>rfl,fun hE ⟨b,h1,h2⟩=>⟨b,h1,hE _ _ h2⟩⟩
theorem kr_st(k:Nat):memoSt (Kr k)=true:=by
 have:flatL (List.replicate k (i64 (-1)))=true:=by
  induction k with
  |zero=>rfl
  |succ k ih=>rw[List.replicate_succ];simp only [flatL,ih,i64];rfl
 unfold memoSt Kr
 simp only [flatBs,this]
 rfl
def okRep(k:Nat):Prop:= ∃n,(1≤n∧n≤24)∧(k=n∨k=n*n*5)
abbrev Q44:=FC (asP (as2 pOne pN) fun x=>okRep x.2) pRep (fun x=>x.2)
theorem con44{x:Unit×Nat}{lv:List Value}{M:Mem}(hM:MemOk M)(h:(asP (as2 pOne pN) fun x=>okRep x.2) x lv M): ∃v M',Con Try.prog [] 44 Q44 lv M v M':=by
 refine FC.con h ?_
 obtain⟨⟨g0,g1,rfl,k0,k1⟩,n,hn,hk⟩:=h
 obtain⟨_,k⟩:=x
 obtain rfl:=k1
 obtain⟨b,rfl,hg⟩:=k0
 simp only at hk
 have hr:RpOk k:=by exact hk.elim (fun e=>e▸(rp_all _ hn).1) (fun e=>e▸(rp_all _ hn).2)
 have hs: ∀B,SpecOk Try.prog [] B 44 (gMemo (Kr k)):=fun B=>SpecOk.memo noNumP mixedP (Kr k) (specs_none Try.prog) (kr_st k) hr
 exact⟨_,_,Ev.of_spec hs (gm hg),Ext.alloc M _,M.next,rfl,Nat.le_refl _,alloc_new hM _ rfl⟩
theorem rK72:Try.f72.results= #[.tmp 8]:=by kernel_rfl
theorem w72(C K c n:Nat)(cl:Value)(cur:List Int)(f t m:Int){M:Mem}(hM:MemOk M)(gC:M.get C=some ⟨[i64 n,sli K 0 cur.length c,cl],73,3,0,true⟩)(gK:M.get K=some ⟨cur.map i64,3,1,0,true⟩): ∃v_ M',Ev Try.prog [] 72 [pt C 0,i64 f,i64 t,i64 m] M v_ M'∧Ext M M'∧MemOk M'∧v_=(i64 (IntKind.wrap .i64 ((IntKind.wrap .i64 ((IntKind.wrap .i64 ((IntKind.wrap .i64 (f*((n:Int))))+t))*(5:Int)))+m))):=by
 have hraw:oT Try.prog [] 60 Try.f72 q72 [pt C 0,i64 f,i64 t,i64 m] M [ttL 11 (i64 ((n:Int)))] 8=some (.ret,some (i64 (IntKind.wrap .i64 ((IntKind.wrap .i64 ((IntKind.wrap .i64 ((IntKind.wrap .i64 (f*((n:Int))))+t))*(5:Int)))+m))),M,[qL 3 C 0 M (i64 ((n:Int)))]):=by kernel_rfl
 exact⟨i64 (IntKind.wrap .i64 ((IntKind.wrap .i64 ((IntKind.wrap .i64 ((IntKind.wrap .i64 (f*((n:Int))))+t))*(5:Int)))+m)),M,Ev.told_tmp noNumP mixedP Try.func72 q72_ok (by kernel_rfl) rK72 (specs_none Try.prog) (fun _ _=>rfl) hraw (hk (lC dC3 gC rfl) hn),Ext.refl M,hM,rfl⟩
abbrev Q72:=FC (asP (as4 (pChart 73) pI pI pI) fun x:(Nat×List Int)×Int×Int×Int=>x.1.1≤60∧(0≤x.2.1∧x.2.1<x.1.1)∧(0≤x.2.2.1∧x.2.2.1<x.1.1)∧(0≤x.2.2.2∧x.2.2.2<5)) (plain pI) (fun x=>plI x.1.1 x.2.1 x.2.2.1 x.2.2.2)
theorem con72{x:(Nat×List Int)×Int×Int×Int}{lv:List Value}{M:Mem}(hM:MemOk M)(h:(asP (as4 (pChart 73) pI pI pI) fun x:(Nat×List Int)×Int×Int×Int=>x.1.1≤60∧(0≤x.2.1∧x.2.1<x.1.1)∧(0≤x.2.2.1∧x.2.2.1<x.1.1)∧(0≤x.2.2.2∧x.2.2.2<5)) x lv M): ∃v M',Con Try.prog [] 72 Q72 lv M v M':=by
 refine FC.con h ?_
 obtain⟨⟨g0,g1,g2,g3,rfl,k0,k1,k2,k3⟩,hok⟩:=h
 obtain⟨⟨n,cur⟩,f,t,m⟩:=x
 obtain rfl:=k1
 obtain rfl:=k2
 obtain rfl:=k3
 obtain⟨C,K,c,cl,rfl,gC,gK⟩:=k0
 obtain⟨v,M',h1,h2,_,h3⟩:=w72 C K c n cl cur f t m hM gC gK
 exact⟨v,M',h1,h2,by rw[h3,pl_wrap hok.1 hok.2.1 hok.2.2.1 hok.2.2.2];rfl⟩
theorem rK56:Try.f56.results= #[.tmp 8]:=by kernel_rfl
theorem w56(C K c n v u m:Nat)(cl:Value)(cur:List Int)(z:Int){M:Mem}(hM:MemOk M)(gC:M.get C=some ⟨[i64 n,sli K 0 cur.length c,cl],73,3,0,true⟩)(gK:M.get K=some ⟨cur.map i64,3,1,0,true⟩)(hr0:n≤60∧(0≤((v:Int))∧((v:Int))<(n:Int))∧(0≤((u:Int))∧((u:Int))<(n:Int))∧(0≤((m:Int))∧((m:Int))<5))(hi1:0≤(plI (n:Int) ((v:Int)) ((u:Int)) ((m:Int)):Int)∧(plI (n:Int) ((v:Int)) ((u:Int)) ((m:Int)):Int)<cur.length)(hc2:((cur.map i64))[0+(plI (n:Int) ((v:Int)) ((u:Int)) ((m:Int)):Int).toNat*1]?=some (i64 z)): ∃v_ M',Ev Try.prog [] 56 [pt C 0,i64 v,i64 u,i64 m] M v_ M'∧Ext M M'∧MemOk M'∧v_=i64 z:=by
 obtain⟨R1,eR2⟩: ∃m:Mem,m=Mem.mk M.blks M.next M.hide []:=⟨_,rfl⟩
 have X3:Ext (Mem.mk M.blks M.next M.hide []) R1:=by rw[eR2];exact Ext.aside ((Ext.refl M))
 have lg4:R1.log= []:=by rw[eR2]
 have hM5:MemOk R1:=by rw[eR2];exact MemOk.log hM
 have ltCM:C<M.next:=by have h:=Mem.lt_of_get gC;exact h
 have g6:R1.get C=some ⟨[i64 ((n:Int)),sli K 0 cur.length c,cl],73,3,0,true⟩:=by rw[eR2];exact gC
 have g7:R1.get K=some ⟨cur.map i64,3,1,0,true⟩:=by rw[eR2];exact gK
 obtain⟨w8,N9,M10,p11,l12,e13,E14,hM15,F16⟩:=call_fc (x:=((n,cur),(v:Int),(u:Int),((m:Int)))) hM5 con72 (⟨⟨_,_,_,_,rfl,⟨C,K,c,cl,rfl,g6,g7⟩,rfl,rfl,rfl⟩,hr0⟩)
 have g19:=E14.old g7
 have ew8:w8=i64 (plI (n:Int) ((v:Int)) ((u:Int)) ((m:Int))):=F16
 subst ew8
 have lg20:M10.log= []:=by rw[←e13];exact lg4
 have X21:=X3.trans E14
 obtain⟨M22,ef23⟩: ∃m:Mem,m=(Mem.mk M10.blks M10.next M10.hide (M10.log++M.log)):=⟨_,rfl⟩
 have X24:Ext M M22:=by rw[ef23];exact Ext.join ((Ext.refl M)) (X21)
 have hM25:MemOk M22:=by rw[ef23];exact hM15
 have hraw:oT Try.prog [] 60 Try.f56 q56 [pt C 0,i64 v,i64 u,i64 m] M [ttL 9 (sli K 0 cur.length c),ttV 19 (i64 (plI (n:Int) ((v:Int)) ((u:Int)) ((m:Int)))) M10,ttT 21,ttL 23 (i64 z)] 8=some (.ret,some (i64 z),Mem.mk M10.blks M10.next M.hide (M10.log++M.log),[qL 22 C 1 (Mem.mk M.blks M.next M.hide []) (sli K 0 cur.length c),qT (Nat.blt C M.next),qC 72 [pt C 0,i64 ((v:Int)),i64 ((u:Int)),i64 ((m:Int))] (Mem.mk M.blks M.next M.hide []) (i64 (plI (n:Int) ((v:Int)) ((u:Int)) ((m:Int)))) M10,.q (.inb (plI (n:Int) ((v:Int)) ((u:Int)) ((m:Int))) cur.length) (ansB true),qL 3 K (0+(plI (n:Int) ((v:Int)) ((u:Int)) ((m:Int)):Int).toNat*1) (Mem.mk M10.blks M10.next M.hide M10.log) (i64 z),qT (apartN [C] M10.log)]):=by kernel_rfl
 have rw0:Mem.mk M.blks M.next M.hide []=R1:=eR2.symm
 have rw1:Mem.mk M10.blks M10.next M.hide M10.log=M10:=by rw[(show M.hide=M10.hide from(((Ext.refl M)).hide.trans (X21).hide.symm))]
 have rw2:(Mem.mk M10.blks M10.next M.hide (M10.log++M.log))=(Mem.mk M10.blks M10.next M10.hide (M10.log++M.log)):=by rw[(show M.hide=M10.hide from(((Ext.refl M)).hide.trans (X21).hide.symm))]
 have rw3:(Mem.mk M10.blks M10.next M10.hide (M10.log++M.log))=M22:=ef23.symm
 try rw[rw0] at hraw
 try rw[rw1] at hraw
 try rw[rw2] at hraw
 try rw[rw3] at hraw
 exact⟨i64 z,M22,Ev.told_tmp noNumP mixedP Try.func56 q56_ok (by kernel_rfl) rK56 (fun B=>sb0 (sbQ 72 Q72 (sbN _))) (fun _ _=>rfl) hraw (hk (lC dC22 g6 rfl) (hk (q_lt ltCM) (hk (q_call rfl p11 l12 e13) (hk (q_inb hi1.1 hi1.2) (hk (q_ld (aload_cell (a:=⟨K,0+(plI (n:Int) ((v:Int)) ((u:Int)) ((m:Int)):Int).toNat*1,none⟩) dC3 g19 hc2)) (hk (q_apart (by rw[lg20];simp<;>omega)) hn)))))),X24,hM25,rfl⟩
abbrev Q56:=FC (asP (as4 (pChart 73) pN pN pN) fun x:(Nat×List Int)×Nat×Nat×Nat=>x.1.1≤60∧x.1.2.length=x.1.1*x.1.1*5∧x.2.1<x.1.1∧x.2.2.1<x.1.1∧x.2.2.2<5) (plain pI) (fun x=>curAt x.1.2 (lookAt x.1.1 .out x.2.1 x.2.2.1 x.2.2.2))
theorem con56{x:(Nat×List Int)×Nat×Nat×Nat}{lv:List Value}{M:Mem}(hM:MemOk M)(h:(asP (as4 (pChart 73) pN pN pN) fun x:(Nat×List Int)×Nat×Nat×Nat=>x.1.1≤60∧x.1.2.length=x.1.1*x.1.1*5∧x.2.1<x.1.1∧x.2.2.1<x.1.1∧x.2.2.2<5) x lv M): ∃v M',Con Try.prog [] 56 Q56 lv M v M':=by
 refine FC.con h ?_
 obtain⟨⟨g0,g1,g2,g3,rfl,k0,k1,k2,k3⟩,hn,hl,hv,hu,hm⟩:=h
 obtain⟨⟨n,cur⟩,v,u,m⟩:=x
 obtain rfl:=k1
 obtain rfl:=k2
 obtain rfl:=k3
 obtain⟨C,K,c,cl,rfl,gC,gK⟩:=k0
 simp only at hn hl hv hu hm gC gK
 have hk:=lookAt_lt (w:= .out) hv hu hm
 have hs:=curAt_some (cur:=cur) (by rw[hl];exact hk)
 have e0:plI (n:Int) (v:Int) (u:Int) (m:Int)=((lookAt n .out v u m:Nat):Int):=by unfold lookAt plI;push_cast;rfl
 obtain⟨v',M',h1,h2,_,h3⟩:=w56 C K c n v u m cl cur (curAt cur (lookAt n .out v u m)) hM gC gK ⟨hn,by omega,by omega,by omega⟩ (by rw[e0];omega) (by rw[e0];simp [hs])
 exact⟨v',M',h1,h2,h3⟩
theorem rK57:Try.f57.results= #[.tmp 8]:=by kernel_rfl
theorem w57(C K c n v u m:Nat)(cl:Value)(cur:List Int)(z:Int){M:Mem}(hM:MemOk M)(gC:M.get C=some ⟨[i64 n,sli K 0 cur.length c,cl],73,3,0,true⟩)(gK:M.get K=some ⟨cur.map i64,3,1,0,true⟩)(hr0:n≤60∧(0≤((u:Int))∧((u:Int))<(n:Int))∧(0≤((v:Int))∧((v:Int))<(n:Int))∧(0≤((m:Int))∧((m:Int))<5))(hi1:0≤(plI (n:Int) ((u:Int)) ((v:Int)) ((m:Int)):Int)∧(plI (n:Int) ((u:Int)) ((v:Int)) ((m:Int)):Int)<cur.length)(hc2:((cur.map i64))[0+(plI (n:Int) ((u:Int)) ((v:Int)) ((m:Int)):Int).toNat*1]?=some (i64 z)): ∃v_ M',Ev Try.prog [] 57 [pt C 0,i64 v,i64 u,i64 m] M v_ M'∧Ext M M'∧MemOk M'∧v_=i64 z:=by
 obtain⟨R1,eR2⟩: ∃m:Mem,m=Mem.mk M.blks M.next M.hide []:=⟨_,rfl⟩
 have X3:Ext (Mem.mk M.blks M.next M.hide []) R1:=by rw[eR2];exact Ext.aside ((Ext.refl M))
 have lg4:R1.log= []:=by rw[eR2]
 have hM5:MemOk R1:=by rw[eR2];exact MemOk.log hM
 have ltCM:C<M.next:=by have h:=Mem.lt_of_get gC;exact h
 have g6:R1.get C=some ⟨[i64 ((n:Int)),sli K 0 cur.length c,cl],73,3,0,true⟩:=by rw[eR2];exact gC
 have g7:R1.get K=some ⟨cur.map i64,3,1,0,true⟩:=by rw[eR2];exact gK
 obtain⟨w8,N9,M10,p11,l12,e13,E14,hM15,F16⟩:=call_fc (x:=((n,cur),(u:Int),(v:Int),((m:Int)))) hM5 con72 (⟨⟨_,_,_,_,rfl,⟨C,K,c,cl,rfl,g6,g7⟩,rfl,rfl,rfl⟩,hr0⟩)
 have g19:=E14.old g7
 have ew8:w8=i64 (plI (n:Int) ((u:Int)) ((v:Int)) ((m:Int))):=F16
 subst ew8
 have lg20:M10.log= []:=by rw[←e13];exact lg4
 have X21:=X3.trans E14
 obtain⟨M22,ef23⟩: ∃m:Mem,m=(Mem.mk M10.blks M10.next M10.hide (M10.log++M.log)):=⟨_,rfl⟩
 have X24:Ext M M22:=by rw[ef23];exact Ext.join ((Ext.refl M)) (X21)
 have hM25:MemOk M22:=by rw[ef23];exact hM15
 have hraw:oT Try.prog [] 60 Try.f57 q57 [pt C 0,i64 v,i64 u,i64 m] M [ttL 9 (sli K 0 cur.length c),ttV 19 (i64 (plI (n:Int) ((u:Int)) ((v:Int)) ((m:Int)))) M10,ttT 21,ttL 23 (i64 z)] 8=some (.ret,some (i64 z),Mem.mk M10.blks M10.next M.hide (M10.log++M.log),[qL 22 C 1 (Mem.mk M.blks M.next M.hide []) (sli K 0 cur.length c),qT (Nat.blt C M.next),qC 72 [pt C 0,i64 ((u:Int)),i64 ((v:Int)),i64 ((m:Int))] (Mem.mk M.blks M.next M.hide []) (i64 (plI (n:Int) ((u:Int)) ((v:Int)) ((m:Int)))) M10,.q (.inb (plI (n:Int) ((u:Int)) ((v:Int)) ((m:Int))) cur.length) (ansB true),qL 3 K (0+(plI (n:Int) ((u:Int)) ((v:Int)) ((m:Int)):Int).toNat*1) (Mem.mk M10.blks M10.next M.hide M10.log) (i64 z),qT (apartN [C] M10.log)]):=by kernel_rfl
 have rw0:Mem.mk M.blks M.next M.hide []=R1:=eR2.symm
 have rw1:Mem.mk M10.blks M10.next M.hide M10.log=M10:=by rw[(show M.hide=M10.hide from(((Ext.refl M)).hide.trans (X21).hide.symm))]
 have rw2:(Mem.mk M10.blks M10.next M.hide (M10.log++M.log))=(Mem.mk M10.blks M10.next M10.hide (M10.log++M.log)):=by rw[(show M.hide=M10.hide from(((Ext.refl M)).hide.trans (X21).hide.symm))]
 have rw3:(Mem.mk M10.blks M10.next M10.hide (M10.log++M.log))=M22:=ef23.symm
 try rw[rw0] at hraw
 try rw[rw1] at hraw
 try rw[rw2] at hraw
 try rw[rw3] at hraw
 exact⟨i64 z,M22,Ev.told_tmp noNumP mixedP Try.func57 q57_ok (by kernel_rfl) rK57 (fun B=>sb0 (sbQ 72 Q72 (sbN _))) (fun _ _=>rfl) hraw (hk (lC dC22 g6 rfl) (hk (q_lt ltCM) (hk (q_call rfl p11 l12 e13) (hk (q_inb hi1.1 hi1.2) (hk (q_ld (aload_cell (a:=⟨K,0+(plI (n:Int) ((u:Int)) ((v:Int)) ((m:Int)):Int).toNat*1,none⟩) dC3 g19 hc2)) (hk (q_apart (by rw[lg20];simp<;>omega)) hn)))))),X24,hM25,rfl⟩
abbrev Q57:=FC (asP (as4 (pChart 73) pN pN pN) fun x:(Nat×List Int)×Nat×Nat×Nat=>x.1.1≤60∧x.1.2.length=x.1.1*x.1.1*5∧x.2.1<x.1.1∧x.2.2.1<x.1.1∧x.2.2.2<5) (plain pI) (fun x=>curAt x.1.2 (lookAt x.1.1 .inn x.2.1 x.2.2.1 x.2.2.2))
theorem con57{x:(Nat×List Int)×Nat×Nat×Nat}{lv:List Value}{M:Mem}(hM:MemOk M)(h:(asP (as4 (pChart 73) pN pN pN) fun x:(Nat×List Int)×Nat×Nat×Nat=>x.1.1≤60∧x.1.2.length=x.1.1*x.1.1*5∧x.2.1<x.1.1∧x.2.2.1<x.1.1∧x.2.2.2<5) x lv M): ∃v M',Con Try.prog [] 57 Q57 lv M v M':=by
 refine FC.con h ?_
 obtain⟨⟨g0,g1,g2,g3,rfl,k0,k1,k2,k3⟩,hn,hl,hv,hu,hm⟩:=h
 obtain⟨⟨n,cur⟩,v,u,m⟩:=x
 obtain rfl:=k1
 obtain rfl:=k2
 obtain rfl:=k3
 obtain⟨C,K,c,cl,rfl,gC,gK⟩:=k0
 simp only at hn hl hv hu hm gC gK
 have hk:=lookAt_lt (w:= .inn) hv hu hm
 have hs:=curAt_some (cur:=cur) (by rw[hl];exact hk)
 have e0:plI (n:Int) (u:Int) (v:Int) (m:Int)=((lookAt n .inn v u m:Nat):Int):=by unfold lookAt plI;push_cast;rfl
 obtain⟨v',M',h1,h2,_,h3⟩:=w57 C K c n v u m cl cur (curAt cur (lookAt n .inn v u m)) hM gC gK ⟨hn,by omega,by omega,by omega⟩ (by rw[e0];omega) (by rw[e0];simp [hs])
 exact⟨v',M',h1,h2,h3⟩
theorem dC28:(Try.prog.underlying 28).map isAggD=some false:=by kernel_rfl
theorem dS28:(Try.prog.info? 28).map (·.size)=some 1:=by kernel_rfl
theorem dA42:(Try.prog.underlying 42).map isAggD=some true:=by kernel_rfl
theorem dS42:(Try.prog.info? 42).map (·.size)=some 7:=by kernel_rfl
theorem rK46:Try.f46.results= #[.tmp 4]:=by kernel_rfl
theorem w46(B ab ao ca:Nat)(c0 c1 c2 c4 c5 c6 c7:Value)(arcs:List A7)(i z:Int){M:Mem}(hM:MemOk M)(gB:M.get B=some ⟨[c0,c1,c2,sli ab ao arcs.length ca,c4,c5,c6,c7],53,8,0,true⟩)(hi0:0≤(i:Int)∧(i:Int)<arcs.length)(hld1:aload Try.prog 3 ⟨ab,ao+(i:Int).toNat*7+3,none⟩ M=some (i64 z)): ∃v_ M',Ev Try.prog [] 46 [pt B 0,i64 i] M v_ M'∧Ext M M'∧MemOk M'∧v_=i64 z:=by
 have hraw:oT Try.prog [] 60 Try.f46 q46 [pt B 0,i64 i] M [ttL 11 (sli ab ao arcs.length ca),ttT 15,ttL 19 (i64 z)] 4=some (.ret,some (i64 z),M,[qL 28 B 3 M (sli ab ao arcs.length ca),.q (.inb i arcs.length) (ansB true),qL 3 ab (ao+(i:Int).toNat*7+3) M (i64 z)]):=by kernel_rfl
 exact⟨i64 z,M,Ev.told_tmp noNumP mixedP Try.func46 q46_ok (by kernel_rfl) rK46 (specs_none Try.prog) (fun _ _=>rfl) hraw (hk (lC dC28 gB rfl) (hk (q_inb hi0.1 hi0.2) (hk (q_ld (hld1)) hn))),Ext.refl M,hM,rfl⟩
abbrev Q46:=FC (asP (as2 (pBA 53) pI) fun x:List A7×Int=>0≤x.2∧x.2<(x.1.length:Int)) (plain pI) (fun x=>costA x.1 x.2)
theorem con46{x:List A7×Int}{lv:List Value}{M:Mem}(hM:MemOk M)(h:(asP (as2 (pBA 53) pI) fun x:List A7×Int=>0≤x.2∧x.2<(x.1.length:Int)) x lv M): ∃v M',Con Try.prog [] 46 Q46 lv M v M':=by
 refine FC.con h ?_
 obtain⟨⟨g0,g1,rfl,k0,k1⟩,hok⟩:=h
 obtain⟨arcs,i⟩:=x
 obtain rfl:=k1
 obtain⟨B,c0,c1,c2,c3,c4,c5,c6,c7,rfl,gB,hs⟩:=k0
 simp only at hok hs
 obtain⟨a,c,rfl⟩:=GRowsAt.form hs
 obtain⟨b,o,rfl,_⟩:=form_pos hs (by omega)
 have ht:arcs[i.toNat]?=some arcs[i.toNat]:=List.getElem?_eq_getElem (by omega)
 have hl:=ld_cell (P:=Try.prog) (ty:=3) (j:=3) (v:=i64 arcs[i.toNat].c) hs ht rfl dC3
 obtain⟨v,M',h1,h2,_,h3⟩:=w46 B b o c c0 c1 c2 c4 c5 c6 c7 arcs i arcs[i.toNat].c hM gB hok hl
 exact⟨v,M',h1,h2,by rw[h3,costA_some ht];rfl⟩
theorem rK47:Try.f47.results= #[.tmp 4]:=by kernel_rfl
theorem w47(B eb eo ce:Nat)(c0 c2 c3 c4 c5 c6 c7:Value)(es:List E4)(i z:Int){M:Mem}(hM:MemOk M)(gB:M.get B=some ⟨[c0,sli eb eo es.length ce,c2,c3,c4,c5,c6,c7],53,8,0,true⟩)(hi0:0≤(i:Int)∧(i:Int)<es.length)(hld1:aload Try.prog 3 ⟨eb,eo+(i:Int).toNat*4+3,none⟩ M=some (i64 z)): ∃v_ M',Ev Try.prog [] 47 [pt B 0,i64 i] M v_ M'∧Ext M M'∧MemOk M'∧v_=i64 z:=by
 have hraw:oT Try.prog [] 60 Try.f47 q47 [pt B 0,i64 i] M [ttL 13 (sli eb eo es.length ce),ttT 17,ttL 21 (i64 z)] 4=some (.ret,some (i64 z),M,[qL 24 B 1 M (sli eb eo es.length ce),.q (.inb i es.length) (ansB true),qL 3 eb (eo+(i:Int).toNat*4+3) M (i64 z)]):=by kernel_rfl
 exact⟨i64 z,M,Ev.told_tmp noNumP mixedP Try.func47 q47_ok (by kernel_rfl) rK47 (specs_none Try.prog) (fun _ _=>rfl) hraw (hk (lC dC24 gB rfl) (hk (q_inb hi0.1 hi0.2) (hk (q_ld (hld1)) hn))),Ext.refl M,hM,rfl⟩
abbrev Q47:=FC (asP (as2 (pBE 53) pI) fun x:List E4×Int=>0≤x.2∧x.2<(x.1.length:Int)) (plain pI) (fun x=>costE x.1 x.2)
theorem con47{x:List E4×Int}{lv:List Value}{M:Mem}(hM:MemOk M)(h:(asP (as2 (pBE 53) pI) fun x:List E4×Int=>0≤x.2∧x.2<(x.1.length:Int)) x lv M): ∃v M',Con Try.prog [] 47 Q47 lv M v M':=by
 refine FC.con h ?_
 obtain⟨⟨g0,g1,rfl,k0,k1⟩,hok⟩:=h
 obtain⟨es,i⟩:=x
 obtain rfl:=k1
 obtain⟨B,c0,c1,c2,c3,c4,c5,c6,c7,rfl,gB,hs⟩:=k0
 simp only at hok hs
 obtain⟨a,c,rfl⟩:=GRowsAt.form hs
 obtain⟨b,o,rfl,_⟩:=form_pos hs (by omega)
 have ht:es[i.toNat]?=some es[i.toNat]:=List.getElem?_eq_getElem (by omega)
 have hl:=ld_cell (P:=Try.prog) (ty:=3) (j:=3) (v:=i64 es[i.toNat].c) hs ht rfl dC3
 obtain⟨v,M',h1,h2,_,h3⟩:=w47 B b o c c0 c2 c3 c4 c5 c6 c7 es i es[i.toNat].c hM gB hok hl
 exact⟨v,M',h1,h2,by rw[h3,costE_some ht];rfl⟩
theorem rK49:Try.f49.results= #[.cell 4 42]:=by kernel_rfl
theorem w49(eb eo ce:Nat)(es:List E4)(e:E4)(i:Int){M:Mem}(hM:MemOk M)(hi0:0≤(i:Int)∧(i:Int)<es.length)(hld1:aload Try.prog 37 ⟨eb,eo+(i:Int).toNat*4,none⟩ M=some (.agg ⟨[i64 e.f,i64 e.t,i64 e.m,i64 e.c]⟩)): ∃v_ M',Ev Try.prog [] 49 [sli eb eo es.length ce,i64 i] M v_ M'∧Ext M M'∧MemOk M'∧v_= .agg ⟨aRow (arcE i e)⟩:=by
 obtain⟨b1,M2,eb3,em4,g5,E6,hM7⟩:=new_t hM ⟨[i64 0,i64 0,i64 0,i64 0,i64 0,i64 0,i64 0],42,7,0,true⟩
 have nb1:M.next≤b1:=by rw[←eb3];exact(Ext.refl M).next
 have X9:=(Ext.refl M).trans E6
 obtain⟨b10,M11,eb12,em13,g14,E15,hM16⟩:=new_t hM7 ⟨[i64 0,i64 0,i64 0,i64 0],37,4,0,true⟩
 have nb10:M.next≤b10:=by rw[←eb12];exact X9.next
 have db1b10:b1≠b10:=by have:=Mem.lt_of_get g5;omega
 have g17:=E15.old g5
 have X19:=X9.trans E15
 obtain⟨M20,q21,g22,kp23,X24,hM25,nx26⟩:=store_t (o:=0) (v:=(.agg ⟨[i64 e.f,i64 e.t,i64 e.m,i64 e.c]⟩)) (new:= [i64 e.f,i64 e.t,i64 e.m,i64 e.c]) X19 nb10 hM16 dS37 g14 rfl rfl (Nat.zero_le _) (Nat.le_of_ble_eq_true rfl) rfl
 replace g22:M20.get b10=some ⟨[i64 e.f,i64 e.t,i64 e.m,i64 e.c],37,4,0,true⟩:=g22
 have g27:=(kp23 _ db1b10).trans g17
 obtain⟨M28,q29,g30,kp31,X32,hM33,nx34⟩:=store_t (o:=0) (v:=(.agg ⟨[i64 e.f,i64 e.t,i64 e.m,i64 e.c,i64 i,i64 0,i64 0]⟩)) (new:= [i64 e.f,i64 e.t,i64 e.m,i64 e.c,i64 i,i64 0,i64 0]) X24 nb1 hM25 dS42 g27 rfl rfl (Nat.zero_le _) (Nat.le_of_ble_eq_true rfl) rfl
 replace g30:M28.get b1=some ⟨[i64 e.f,i64 e.t,i64 e.m,i64 e.c,i64 i,i64 0,i64 0],42,7,0,true⟩:=g30
 have hraw:oT Try.prog [] 60 Try.f49 q49 [sli eb eo es.length ce,i64 i] M [ttV 1 (pt b1 0) M2,ttT 7,ttL 9 (.agg ⟨[i64 e.f,i64 e.t,i64 e.m,i64 e.c]⟩),ttV 11 (pt b10 0) M11,ttS 13 M20,ttL 17 (i64 e.f),ttL 21 (i64 e.t),ttL 25 (i64 e.m),ttL 29 (i64 e.c),ttS 35 M28] 4=some (.ret,some (pt b1 0),M28,[.eq (aalloc Try.prog 42 M) (1,.val (pt b1 0),M2),.q (.inb i es.length) (ansB true),qL 37 eb (eo+(i:Int).toNat*4) M2 (.agg ⟨[i64 e.f,i64 e.t,i64 e.m,i64 e.c]⟩),.eq (aalloc Try.prog 37 M2) (1,.val (pt b10 0),M11),qS 37 b10 0 (.agg ⟨[i64 e.f,i64 e.t,i64 e.m,i64 e.c]⟩) M11 M20,qL 3 b10 0 M20 (i64 e.f),qL 3 b10 1 M20 (i64 e.t),qL 3 b10 2 M20 (i64 e.m),qL 3 b10 3 M20 (i64 e.c),qS 42 b1 0 (.agg ⟨[i64 e.f,i64 e.t,i64 e.m,i64 e.c,i64 i,i64 0,i64 0]⟩) M20 M28]):=by kernel_rfl
 exact⟨.agg ⟨[i64 e.f,i64 e.t,i64 e.m,i64 e.c,i64 i,i64 0,i64 0]⟩,M28,Ev.told_cell noNumP mixedP Try.func49 q49_ok (by kernel_rfl) rK49 (specs_none Try.prog) (fun _ _=>rfl) hraw (aload_agg (a:=⟨b1,0,none⟩) dA42 dS42 g30 rfl) (hk (q_eq (by rw[←eb3,←em4];kernel_rfl) Nat.one_ne_zero) (hk (q_inb hi0.1 hi0.2) (hk (q_ld (aload_ext X9 hld1)) (hk (q_eq (by rw[←eb12,←em13];kernel_rfl) Nat.one_ne_zero) (hk (q_st q21) (hk (lC dC3 g22 rfl) (hk (lC dC3 g22 rfl) (hk (lC dC3 g22 rfl) (hk (lC dC3 g22 rfl) (hk (q_st q29) hn)))))))))),X32,hM33,rfl⟩
abbrev Q49:=FC (asP (as2 pEdges pI) fun x:List E4×Int=>0≤x.2∧x.2<(x.1.length:Int)) (plain pArc) (fun x=>arcE x.2 (eAt x.1 x.2))
theorem con49{x:List E4×Int}{lv:List Value}{M:Mem}(hM:MemOk M)(h:(asP (as2 pEdges pI) fun x:List E4×Int=>0≤x.2∧x.2<(x.1.length:Int)) x lv M): ∃v M',Con Try.prog [] 49 Q49 lv M v M':=by
 refine FC.con h ?_
 obtain⟨⟨g0,g1,rfl,hs,k1⟩,hok⟩:=h
 obtain⟨es,i⟩:=x
 obtain rfl:=k1
 simp only at hok hs
 obtain⟨a,c,rfl⟩:=GRowsAt.form hs
 obtain⟨b,o,rfl,_⟩:=form_pos hs (by omega)
 have ht:es[i.toNat]?=some es[i.toNat]:=List.getElem?_eq_getElem (by omega)
 have hl:=ld_row (P:=Try.prog) (ty:=37) hs ht dA37 dS37
 obtain⟨v,M',h1,h2,_,h3⟩:=w49 b o c es es[i.toNat] i hM hok hl
 exact⟨v,M',h1,h2,by show pArc (arcE i (eAt es i)) _ _;rw[eAt_some ht];exact h3⟩
theorem rK79:Try.f79.results= #[.cell 6 42]:=by kernel_rfl
theorem w79(ab ao ca:Nat)(arcs:List A7)(x y:A7)(ia ib:Int){M:Mem}(hM:MemOk M)(hab:ab<M.next)(hi0:0≤(ia:Int)∧(ia:Int)<arcs.length)(hld1:aload Try.prog 42 ⟨ab,ao+(ia:Int).toNat*7,none⟩ M=some (.agg ⟨[i64 x.f,i64 x.t,i64 x.m,i64 x.c,i64 x.e,i64 x.a,i64 x.b]⟩))(hi2:0≤(ib:Int)∧(ib:Int)<arcs.length)(hld3:aload Try.prog 42 ⟨ab,ao+(ib:Int).toNat*7,none⟩ M=some (.agg ⟨[i64 y.f,i64 y.t,i64 y.m,i64 y.c,i64 y.e,i64 y.a,i64 y.b]⟩)): ∃v_ M',Ev Try.prog [] 79 [sli ab ao arcs.length ca,i64 ia,i64 ib] M v_ M'∧Ext M M'∧MemOk M'∧v_= .agg ⟨aRow ⟨x.f,y.t,x.m,IntKind.wrap .i64 (x.c+y.c),-1,ia,ib⟩⟩:=by
 obtain⟨b1,M2,eb3,em4,g5,E6,hM7⟩:=new_t hM ⟨[i64 0,i64 0,i64 0,i64 0,i64 0,i64 0,i64 0],42,7,0,true⟩
 have nb1:M.next≤b1:=by rw[←eb3];exact(Ext.refl M).next
 have X9:=(Ext.refl M).trans E6
 obtain⟨R10,eR11⟩: ∃m:Mem,m=Mem.mk M2.blks M2.next M2.hide []:=⟨_,rfl⟩
 have X12:Ext (Mem.mk M.blks M.next M.hide []) R10:=by rw[eR11];exact Ext.aside (X9)
 have lg13:R10.log= []:=by rw[eR11]
 have nxR10:R10.next=M2.next:=by rw[eR11]
 have hM14:MemOk R10:=by rw[eR11];exact MemOk.log hM7
 have ltabM2:ab<M2.next:=Nat.lt_of_lt_of_le hab (X9).next
 have ltb1M2:b1<M2.next:=by have h:=Mem.lt_of_get g5;exact h
 have g15:R10.get b1=some ⟨[i64 0,i64 0,i64 0,i64 0,i64 0,i64 0,i64 0],42,7,0,true⟩:=by rw[eR11];exact g5
 obtain⟨b16,M17,eb18,em19,g20,E21,hM22⟩:=new_t hM14 ⟨[i64 0,i64 0,i64 0,i64 0,i64 0,i64 0,i64 0],42,7,0,true⟩
 have nb16:M.next≤b16:=by rw[←eb18];exact X12.next
 have db1b16:b1≠b16:=by have:=Mem.lt_of_get g15;omega
 have g23:=E21.old g15
 have lg24:M17.log= []:=by rw[←em19];exact lg13
 have X26:=X12.trans E21
 obtain⟨b27,M28,eb29,em30,g31,E32,hM33⟩:=new_t hM22 ⟨[i64 0,i64 0,i64 0,i64 0,i64 0,i64 0,i64 0],42,7,0,true⟩
 have nb27:M.next≤b27:=by rw[←eb29];exact X26.next
 have db1b27:b1≠b27:=by have:=Mem.lt_of_get g23;omega
 have db16b27:b16≠b27:=by have:=Mem.lt_of_get g20;omega
 have g34:=E32.old g23
 have g35:=E32.old g20
 have lg36:M28.log= []:=by rw[←em30];exact lg24
 have X38:=X26.trans E32
 obtain⟨M39,q40,g41,kp42,X43,hM44,nx45⟩:=store_t (o:=0) (v:=(.agg ⟨[i64 x.f,i64 x.t,i64 x.m,i64 x.c,i64 x.e,i64 x.a,i64 x.b]⟩)) (new:= [i64 x.f,i64 x.t,i64 x.m,i64 x.c,i64 x.e,i64 x.a,i64 x.b]) X38 nb16 hM33 dS42 g35 rfl rfl (Nat.zero_le _) (Nat.le_of_ble_eq_true rfl) rfl
 replace g41:M39.get b16=some ⟨[i64 x.f,i64 x.t,i64 x.m,i64 x.c,i64 x.e,i64 x.a,i64 x.b],42,7,0,true⟩:=g41
 have g46:=(kp42 _ db1b16).trans g34
 have g47:=(kp42 _ (Ne.symm db16b27)).trans g31
 have lg48:M39.log= [b16]:=by rw[nx45,lg36]
 obtain⟨M49,q50,g51,kp52,X53,hM54,nx55⟩:=store_t (o:=0) (v:=(.agg ⟨[i64 y.f,i64 y.t,i64 y.m,i64 y.c,i64 y.e,i64 y.a,i64 y.b]⟩)) (new:= [i64 y.f,i64 y.t,i64 y.m,i64 y.c,i64 y.e,i64 y.a,i64 y.b]) X43 nb27 hM44 dS42 g47 rfl rfl (Nat.zero_le _) (Nat.le_of_ble_eq_true rfl) rfl
 replace g51:M49.get b27=some ⟨[i64 y.f,i64 y.t,i64 y.m,i64 y.c,i64 y.e,i64 y.a,i64 y.b],42,7,0,true⟩:=g51
 have g56:=(kp52 _ db1b27).trans g46
 have g57:=(kp52 _ db16b27).trans g41
 have lg58:M49.log= [b27,b16]:=by rw[nx55,lg48]
 obtain⟨M59,ef60⟩: ∃m:Mem,m=(Mem.mk M49.blks M49.next M49.hide (M49.log++M2.log)):=⟨_,rfl⟩
 have X61:Ext M M59:=by rw[ef60];exact Ext.join (X9) (X53)
 have hM62:MemOk M59:=by rw[ef60];exact hM54
 have g63:M59.get b1=some ⟨[i64 0,i64 0,i64 0,i64 0,i64 0,i64 0,i64 0],42,7,0,true⟩:=by rw[ef60];exact g56
 have g64:M59.get b16=some ⟨[i64 x.f,i64 x.t,i64 x.m,i64 x.c,i64 x.e,i64 x.a,i64 x.b],42,7,0,true⟩:=by rw[ef60];exact g57
 have g65:M59.get b27=some ⟨[i64 y.f,i64 y.t,i64 y.m,i64 y.c,i64 y.e,i64 y.a,i64 y.b],42,7,0,true⟩:=by rw[ef60];exact g51
 obtain⟨M66,q67,g68,kp69,X70,hM71,nx72⟩:=store_t (o:=0) (v:=(.agg ⟨[i64 x.f,i64 y.t,i64 x.m,i64 (IntKind.wrap .i64 (x.c+y.c)),i64 (-1),i64 ia,i64 ib]⟩)) (new:= [i64 x.f,i64 y.t,i64 x.m,i64 (IntKind.wrap .i64 (x.c+y.c)),i64 (-1),i64 ia,i64 ib]) X61 nb1 hM62 dS42 g63 rfl rfl (Nat.zero_le _) (Nat.le_of_ble_eq_true rfl) rfl
 replace g68:M66.get b1=some ⟨[i64 x.f,i64 y.t,i64 x.m,i64 (IntKind.wrap .i64 (x.c+y.c)),i64 (-1),i64 ia,i64 ib],42,7,0,true⟩:=g68
 have hraw:oT Try.prog [] 60 Try.f79 q79 [sli ab ao arcs.length ca,i64 ia,i64 ib] M [ttV 1 (pt b1 0) M2,ttT 7,ttL 9 (.agg ⟨[i64 x.f,i64 x.t,i64 x.m,i64 x.c,i64 x.e,i64 x.a,i64 x.b]⟩),ttT 15,ttL 17 (.agg ⟨[i64 y.f,i64 y.t,i64 y.m,i64 y.c,i64 y.e,i64 y.a,i64 y.b]⟩),ttV 19 (pt b16 0) M17,ttV 21 (pt b27 0) (Mem.mk M28.blks M28.next (hides 0 [⟨8,1,M2.next,M17.next⟩,⟨3,1,M2.next,M2.next⟩]++M2.hide) M28.log),ttS 23 M39,ttS 25 M49,ttL 29 (i64 x.f),ttL 33 (i64 y.t),ttL 37 (i64 x.m),ttL 41 (i64 x.c),ttL 45 (i64 y.c),ttS 55 M66] 6=some (.ret,some (pt b1 0),M66,[.eq (aalloc Try.prog 42 M) (1,.val (pt b1 0),M2),.q (.inb ia arcs.length) (ansB true),qL 42 ab (ao+(ia:Int).toNat*7) (Mem.mk M2.blks M2.next M2.hide []) (.agg ⟨[i64 x.f,i64 x.t,i64 x.m,i64 x.c,i64 x.e,i64 x.a,i64 x.b]⟩),.q (.inb ib arcs.length) (ansB true),qL 42 ab (ao+(ib:Int).toNat*7) (Mem.mk M2.blks M2.next (hides 112 [⟨3,1,M2.next,M2.next⟩]++M2.hide) []) (.agg ⟨[i64 y.f,i64 y.t,i64 y.m,i64 y.c,i64 y.e,i64 y.a,i64 y.b]⟩),qT (Nat.blt ab M2.next),.eq (aalloc Try.prog 42 (Mem.mk M2.blks M2.next (hides 0 [⟨3,1,M2.next,M2.next⟩]++M2.hide) [])) (1,.val (pt b16 0),M17),.eq (aalloc Try.prog 42 (Mem.mk M17.blks M17.next (hides 0 [⟨8,1,M2.next,M17.next⟩,⟨3,1,M2.next,M2.next⟩]++M2.hide) M17.log)) (1,.val (pt b27 0),(Mem.mk M28.blks M28.next (hides 0 [⟨8,1,M2.next,M17.next⟩,⟨3,1,M2.next,M2.next⟩]++M2.hide) M28.log)),qS 42 b16 0 (.agg ⟨[i64 x.f,i64 x.t,i64 x.m,i64 x.c,i64 x.e,i64 x.a,i64 x.b]⟩) (Mem.mk (Mem.mk M28.blks M28.next (hides 0 [⟨8,1,M2.next,M17.next⟩,⟨3,1,M2.next,M2.next⟩]++M2.hide) M28.log).blks (Mem.mk M28.blks M28.next (hides 0 [⟨8,1,M2.next,M17.next⟩,⟨3,1,M2.next,M2.next⟩]++M2.hide) M28.log).next M2.hide (Mem.mk M28.blks M28.next (hides 0 [⟨8,1,M2.next,M17.next⟩,⟨3,1,M2.next,M2.next⟩]++M2.hide) M28.log).log) M39,qS 42 b27 0 (.agg ⟨[i64 y.f,i64 y.t,i64 y.m,i64 y.c,i64 y.e,i64 y.a,i64 y.b]⟩) (Mem.mk M39.blks M39.next M2.hide M39.log) M49,qT (apartN [ab] M49.log),qL 3 b16 0 (Mem.mk M49.blks M49.next M2.hide (M49.log++M2.log)) (i64 x.f),qL 3 b27 1 (Mem.mk M49.blks M49.next M2.hide (M49.log++M2.log)) (i64 y.t),qL 3 b16 2 (Mem.mk M49.blks M49.next M2.hide (M49.log++M2.log)) (i64 x.m),qL 3 b16 3 (Mem.mk M49.blks M49.next M2.hide (M49.log++M2.log)) (i64 x.c),qL 3 b27 3 (Mem.mk M49.blks M49.next M2.hide (M49.log++M2.log)) (i64 y.c),qS 42 b1 0 (.agg ⟨[i64 x.f,i64 y.t,i64 x.m,i64 (IntKind.wrap .i64 (x.c+y.c)),i64 (-1),i64 ia,i64 ib]⟩) (Mem.mk M49.blks M49.next M2.hide (M49.log++M2.log)) M66]):=by kernel_rfl
 dsimp only at hraw
 have rw0:Mem.mk M2.blks M2.next M2.hide []=R10:=eR11.symm
 have rw1:Mem.mk M2.blks M2.next (hides 112 [⟨3,1,M2.next,M2.next⟩]++M2.hide) []=R10:=by rw[show hides 112 [⟨3,1,M2.next,M2.next⟩]= [] from by simp [hides,Nat.beq_refl,nxR10,show Nat.beq 1 0=false from rfl,show Nat.beq 2 0=false from rfl]];exact eR11.symm
 have rw2:Mem.mk M2.blks M2.next (hides 0 [⟨3,1,M2.next,M2.next⟩]++M2.hide) []=R10:=by rw[show hides 0 [⟨3,1,M2.next,M2.next⟩]= [] from by simp [hides,Nat.beq_refl,nxR10,show Nat.beq 1 0=false from rfl,show Nat.beq 2 0=false from rfl]];exact eR11.symm
 have rw4:Mem.mk M28.blks M28.next M2.hide M28.log=M28:=by rw[(show M2.hide=M28.hide from((X9).hide.trans (X38).hide.symm))]
 have rw5:Mem.mk M39.blks M39.next M2.hide M39.log=M39:=by rw[(show M2.hide=M39.hide from((X9).hide.trans (X43).hide.symm))]
 have rw7:(Mem.mk M49.blks M49.next M2.hide (M49.log++M2.log))=(Mem.mk M49.blks M49.next M49.hide (M49.log++M2.log)):=by rw[(show M2.hide=M49.hide from((X9).hide.trans (X53).hide.symm))]
 have rw8:(Mem.mk M49.blks M49.next M49.hide (M49.log++M2.log))=M59:=ef60.symm
 try rw[rw0] at hraw
 try rw[rw1] at hraw
 try rw[rw2] at hraw
 try rw[rw4] at hraw
 try rw[rw5] at hraw
 try rw[rw7] at hraw
 try rw[rw8] at hraw
 exact⟨.agg ⟨[i64 x.f,i64 y.t,i64 x.m,i64 (IntKind.wrap .i64 (x.c+y.c)),i64 (-1),i64 ia,i64 ib]⟩,M66,Ev.told_cell noNumP mixedP Try.func79 q79_ok (by kernel_rfl) rK79 (specs_none Try.prog) (fun _ _=>rfl) hraw (aload_agg (a:=⟨b1,0,none⟩) dA42 dS42 g68 rfl) (hk (q_eq (by rw[←eb3,←em4];kernel_rfl) Nat.one_ne_zero) (hk (q_inb hi0.1 hi0.2) (hk (q_ld (aload_ext X12 hld1)) (hk (q_inb hi2.1 hi2.2) (hk (q_ld (aload_ext X12 hld3)) (hk (q_lt ltabM2) (hk (q_eq (by rw[←eb18,←em19];kernel_rfl) Nat.one_ne_zero) (hk (q_eq (by rw[←eb29,←em30];kernel_rfl) Nat.one_ne_zero) (hk (q_st q40) (hk (q_st q50) (hk (q_apart (by rw[lg58];simp<;>omega)) (hk (lC dC3 g64 rfl) (hk (lC dC3 g65 rfl) (hk (lC dC3 g64 rfl) (hk (lC dC3 g64 rfl) (hk (lC dC3 g65 rfl) (hk (q_st q67) hn))))))))))))))))),X70,hM71,rfl⟩
abbrev Q79:=FC (asP (as3 pArcs pI pI) fun x:List A7×Int×Int=>(0≤x.2.1∧x.2.1<(x.1.length:Int))∧(0≤x.2.2∧x.2.2<(x.1.length:Int))∧0≤(aAt x.1 x.2.1).c+(aAt x.1 x.2.2).c∧(aAt x.1 x.2.1).c+(aAt x.1 x.2.2).c<9223372036854775808) (plain pArc) (fun x=>arcS (aAt x.1 x.2.1) (aAt x.1 x.2.2) x.2.1 x.2.2)
theorem con79{x:List A7×Int×Int}{lv:List Value}{M:Mem}(hM:MemOk M)(h:(asP (as3 pArcs pI pI) fun x:List A7×Int×Int=>(0≤x.2.1∧x.2.1<(x.1.length:Int))∧(0≤x.2.2∧x.2.2<(x.1.length:Int))∧0≤(aAt x.1 x.2.1).c+(aAt x.1 x.2.2).c∧(aAt x.1 x.2.1).c+(aAt x.1 x.2.2).c<9223372036854775808) x lv M): ∃v M',Con Try.prog [] 79 Q79 lv M v M':=by
 refine FC.con h ?_
 obtain⟨⟨g0,g1,g2,rfl,hs,k1,k2⟩,h1,h2,h3⟩:=h
 obtain⟨arcs,ia,ib⟩:=x
 obtain rfl:=k1
 obtain rfl:=k2
 simp only at h1 h2 h3 hs
 obtain⟨a,c,rfl⟩:=GRowsAt.form hs
 obtain⟨b,o,rfl,_⟩:=form_pos hs (by omega)
 have ta:arcs[ia.toNat]?=some arcs[ia.toNat]:=List.getElem?_eq_getElem (by omega)
 have tb:arcs[ib.toNat]?=some arcs[ib.toNat]:=List.getElem?_eq_getElem (by omega)
 have la:=ld_row (P:=Try.prog) (ty:=42) hs ta dA42 dS42
 have lb:=ld_row (P:=Try.prog) (ty:=42) hs tb dA42 dS42
 obtain⟨v,M',q1,q2,_,q3⟩:=w79 b o c arcs arcs[ia.toNat] arcs[ib.toNat] ia ib hM (row_lt hs (by omega)) h1 la h2 lb
 refine⟨v,M',q1,q2,?_⟩
 rw[aAt_some ta,aAt_some tb] at h3
 show pArc (arcS (aAt arcs ia) (aAt arcs ib) ia ib) _ _
 rw[aAt_some ta,aAt_some tb]
 rw[wrap_big (by omega) (by omega)] at q3
 exact q3
theorem dC70:(Try.prog.underlying 70).map isAggD=some false:=by kernel_rfl
theorem rK48:Try.f48.results= #[.tmp 6]:=by kernel_rfl
theorem w48A0(B C K n:Nat)(cur:List Int)(a:A7)(num:Int)(y:List A7)(z:Int){M M0:Mem}(hM:MemOk M)(X0:Ext M0 M)(gC:M.get C=some ⟨[i64 n,sli K 0 (n*n*5) (n*n*5+1),.func (.func 46) ⟨[pt B 0]⟩ ⟨[]⟩],73,3,0,true⟩)(gK:M.get K=some ⟨cur.map i64,3,1,0,true⟩)(nK:M0.next≤K)(dCK:C≠K)(hY:(pBA 53) y (pt B 0) (hidx [(K,K+1)] M))(hcl:cur.length=n*n*5)(hrange:n≤60∧(0≤a.f∧a.f<(n:Int))∧(0≤a.t∧a.t<(n:Int))∧(0≤a.m∧a.m<5))(hz:z≠ -1→0≤z∧z<(y.length:Int))(cc0:(z==(-1:Int))=true)(hi0:0≤(plI (n:Int) a.f a.t a.m:Int)∧(plI (n:Int) a.f a.t a.m:Int)<(n*n*5))(hc1:((cur.map i64))[0+(plI (n:Int) a.f a.t a.m:Int).toNat*1]?=some (i64 z))(hof2:0+(plI (n:Int) a.f a.t a.m:Int).toNat*1+1≤((cur.map i64)).length): ∃M',Ev Try.prog [] 48 [pt C 0,.agg ⟨[i64 a.f,i64 a.t,i64 a.m,i64 a.c,i64 a.e,i64 a.a,i64 a.b]⟩,i64 num] M (.bool true) M'∧Ext M0 M'∧MemOk M'∧M'.get K=some ⟨splice (cur.map i64) (0+(plI (n:Int) a.f a.t a.m:Int).toNat*1) [i64 num],3,1,0,true⟩∧(∀id k,M.get id=some k→id≠K→M'.get id=some k):=by
 obtain⟨b1,M2,eb3,em4,g5,E6,hM7⟩:=new_t hM ⟨[i64 a.f,i64 a.t,i64 a.m,i64 a.c,i64 a.e,i64 a.a,i64 a.b],42,7,0,true⟩
 have g9:=E6.old gC
 have g10:=E6.old gK
 have X12:=X0.trans E6
 obtain⟨w13,N14,M15,p16,l17,e18,E19,hM20,F21⟩:=call_fc (x:=((n,cur),a.f,a.t,a.m)) hM7 con72 (⟨⟨_,_,_,_,rfl,⟨C,K,n*n*5+1,.func (.func 46) ⟨[pt B 0]⟩ ⟨[]⟩,rfl,(by rw[hcl];exact g9),g10⟩,rfl,rfl,rfl⟩,hrange⟩)
 have g24:=E19.old g9
 have g25:=E19.old g10
 have ew13:w13=i64 (plI (n:Int) a.f a.t a.m):=F21
 subst ew13
 have X27:=X12.trans E19
 obtain⟨R28,eR29⟩: ∃m:Mem,m=Mem.mk M15.blks M15.next M15.hide []:=⟨_,rfl⟩
 have X30:Ext (Mem.mk M0.blks M0.next M0.hide []) R28:=by rw[eR29];exact Ext.aside (X27)
 have hM32:MemOk R28:=by rw[eR29];exact MemOk.log hM20
 have g33:R28.get C=some ⟨[i64 ((n:Int)),sli K 0 (n*n*5) (n*n*5+1),.func (.func 46) ⟨[pt B 0]⟩ ⟨[]⟩],73,3,0,true⟩:=by rw[eR29];exact g24
 have g34:R28.get K=some ⟨cur.map i64,3,1,0,true⟩:=by rw[eR29];exact g25
 obtain⟨M37,ef38⟩: ∃m:Mem,m=(Mem.mk R28.blks R28.next R28.hide (R28.log++M15.log)):=⟨_,rfl⟩
 have X39:Ext M0 M37:=by rw[ef38];exact Ext.join (X27) (X30)
 have hM40:MemOk M37:=by rw[ef38];exact hM32
 have g41:M37.get C=some ⟨[i64 ((n:Int)),sli K 0 (n*n*5) (n*n*5+1),.func (.func 46) ⟨[pt B 0]⟩ ⟨[]⟩],73,3,0,true⟩:=by rw[ef38];exact g33
 have g42:M37.get K=some ⟨cur.map i64,3,1,0,true⟩:=by rw[ef38];exact g34
 obtain⟨M45,q46,g47,kp48,X49,hM50,nx51⟩:=store_t (o:=0+(plI (n:Int) a.f a.t a.m:Int).toNat*1) (v:=(i64 num)) (new:=splice (cur.map i64) (0+(plI (n:Int) a.f a.t a.m:Int).toNat*1) [i64 num]) X39 nK hM40 dS3 g42 rfl rfl (Nat.zero_le _) hof2 rfl
 replace g47:M45.get K=some ⟨splice (cur.map i64) (0+(plI (n:Int) a.f a.t a.m:Int).toNat*1) [i64 num],3,1,0,true⟩:=g47
 have hraw:oT Try.prog [] 60 Try.f48 q48 [pt C 0,.agg ⟨[i64 a.f,i64 a.t,i64 a.m,i64 a.c,i64 a.e,i64 a.a,i64 a.b]⟩,i64 num] M [ttV 1 (pt b1 0) M2,ttL 9 (i64 a.f),ttL 13 (i64 a.t),ttL 17 (i64 a.m),ttV 19 (i64 (plI (n:Int) a.f a.t a.m)) M15,ttL 29 (sli K 0 (n*n*5) (n*n*5+1)),ttT 33,ttL 35 (i64 z),ttF 44,ttF 46,ttF 48,ttF 50,ttF 52,ttF 54,ttF 56,ttF 58,ttF 60,ttF 63,ttL 72 (sli K 0 (n*n*5) (n*n*5+1)),ttT 78,ttS 80 M45] 6=some (.ret,some (.bool true),M45,[.eq (abox Try.prog 42 (.agg ⟨[i64 a.f,i64 a.t,i64 a.m,i64 a.c,i64 a.e,i64 a.a,i64 a.b]⟩) M) (1,.val (pt b1 0),M2),qL 3 b1 0 M2 (i64 a.f),qL 3 b1 1 M2 (i64 a.t),qL 3 b1 2 M2 (i64 a.m),qC 72 [pt C 0,i64 a.f,i64 a.t,i64 a.m] M2 (i64 (plI (n:Int) a.f a.t a.m)) M15,qL 22 C 1 M15 (sli K 0 (n*n*5) (n*n*5+1)),.q (.inb (plI (n:Int) a.f a.t a.m) (n*n*5)) (ansB true),qL 3 K (0+(plI (n:Int) a.f a.t a.m:Int).toNat*1) M15 (i64 z),qF (!(z==(-1:Int))),qF (!(z==(-1:Int))),qF (!(z==(-1:Int))),qF (!(z==(-1:Int))),qF (!(z==(-1:Int))),qF (!(z==(-1:Int))),qF (!(z==(-1:Int))),qF (!(z==(-1:Int))),qF (!(z==(-1:Int))),qF (!(z==(-1:Int))),qT (apartN [] []),qL 22 C 1 (Mem.mk M15.blks M15.next M15.hide ([]++M15.log)) (sli K 0 (n*n*5) (n*n*5+1)),.q (.inb (plI (n:Int) a.f a.t a.m) (n*n*5)) (ansB true),qS 3 K (0+(plI (n:Int) a.f a.t a.m:Int).toNat*1) (i64 num) (Mem.mk M15.blks M15.next M15.hide ([]++M15.log)) M45]):=by kernel_rfl
 have rw1:(Mem.mk M15.blks M15.next M15.hide ([]++M15.log))=(Mem.mk R28.blks R28.next R28.hide (R28.log++M15.log)):=by rw[eR29]
 have rw2:(Mem.mk R28.blks R28.next R28.hide (R28.log++M15.log))=M37:=ef38.symm
 try rw[rw1] at hraw
 try rw[rw2] at hraw
 have hkp: ∀id k,M.get id=some k→id≠K→M45.get id=some k:=fun id k g h_K=>by
  have g:=E6.old g
  have g:=E19.old g
  have g:R28.get id=some k:=by rw[eR29];exact g
  have g:M37.get id=some k:=by rw[ef38];exact g
  have g:=((fun id h _=>kp48 id h) id h_K (Mem.lt_of_get g)).trans g
  exact g
 exact⟨M45,Ev.told_tmp noNumP mixedP Try.func48 q48_ok (by kernel_rfl) rK48 (fun B=>sb0 (sbQ 72 Q72 (sbN _))) (fun _ _=>rfl) hraw (hk (q_eq (by rw[←eb3,←em4];kernel_rfl) Nat.one_ne_zero) (hk (lC dC3 g5 rfl) (hk (lC dC3 g5 rfl) (hk (lC dC3 g5 rfl) (hk (q_call rfl p16 l17 e18) (hk (lC dC22 g24 rfl) (hk (q_inb hi0.1 hi0.2) (hk (q_ld (aload_cell (a:=⟨K,0+(plI (n:Int) a.f a.t a.m:Int).toNat*1,none⟩) dC3 g25 hc1)) (hk (bF (by rw[cc0];rfl)) (hk (bF (by rw[cc0];rfl)) (hk (bF (by rw[cc0];rfl)) (hk (bF (by rw[cc0];rfl)) (hk (bF (by rw[cc0];rfl)) (hk (bF (by rw[cc0];rfl)) (hk (bF (by rw[cc0];rfl)) (hk (bF (by rw[cc0];rfl)) (hk (bF (by rw[cc0];rfl)) (hk (bF (by rw[cc0];rfl)) (hk (q_apart (by simp)) (hk (lC dC22 g41 rfl) (hk (q_inb hi0.1 hi0.2) (hk (q_st q46) hn)))))))))))))))))))))),X49,hM50,g47,hkp⟩
theorem w48A1(B C K n:Nat)(cur:List Int)(a:A7)(num:Int)(y:List A7)(z:Int){M M0:Mem}(hM:MemOk M)(X0:Ext M0 M)(gC:M.get C=some ⟨[i64 n,sli K 0 (n*n*5) (n*n*5+1),.func (.func 46) ⟨[pt B 0]⟩ ⟨[]⟩],73,3,0,true⟩)(gK:M.get K=some ⟨cur.map i64,3,1,0,true⟩)(nK:M0.next≤K)(dCK:C≠K)(hY:(pBA 53) y (pt B 0) (hidx [(K,K+1)] M))(hcl:cur.length=n*n*5)(hrange:n≤60∧(0≤a.f∧a.f<(n:Int))∧(0≤a.t∧a.t<(n:Int))∧(0≤a.m∧a.m<5))(hz:z≠ -1→0≤z∧z<(y.length:Int))(cc0:(z==(-1:Int))=false)(cc1:(decide ((costA y z)≤a.c))=true)(hi0:0≤(plI (n:Int) a.f a.t a.m:Int)∧(plI (n:Int) a.f a.t a.m:Int)<(n*n*5))(hc1:((cur.map i64))[0+(plI (n:Int) a.f a.t a.m:Int).toNat*1]?=some (i64 z)): ∃M',Ev Try.prog [] 48 [pt C 0,.agg ⟨[i64 a.f,i64 a.t,i64 a.m,i64 a.c,i64 a.e,i64 a.a,i64 a.b]⟩,i64 num] M (.bool false) M'∧Ext M0 M'∧MemOk M'∧M'.get K=some ⟨cur.map i64,3,1,0,true⟩∧(∀id k,M.get id=some k→id≠K→M'.get id=some k):=by
 obtain⟨b1,M2,eb3,em4,g5,E6,hM7⟩:=new_t hM ⟨[i64 a.f,i64 a.t,i64 a.m,i64 a.c,i64 a.e,i64 a.a,i64 a.b],42,7,0,true⟩
 have F8:=hx_new (R:=(pBA 53)) hY eb3 E6
 have g9:=E6.old gC
 have g10:=E6.old gK
 have X12:=X0.trans E6
 obtain⟨w13,N14,M15,p16,l17,e18,E19,hM20,F21⟩:=call_fc (x:=((n,cur),a.f,a.t,a.m)) hM7 con72 (⟨⟨_,_,_,_,rfl,⟨C,K,n*n*5+1,.func (.func 46) ⟨[pt B 0]⟩ ⟨[]⟩,rfl,(by rw[hcl];exact g9),g10⟩,rfl,rfl,rfl⟩,hrange⟩)
 have F23:=hx_ext (R:=(pBA 53)) F8 E19
 have g24:=E19.old g9
 have g25:=E19.old g10
 have g26:=E19.old g5
 have ew13:w13=i64 (plI (n:Int) a.f a.t a.m):=F21
 subst ew13
 have X27:=X12.trans E19
 obtain⟨R28,eR29⟩: ∃m:Mem,m=Mem.mk M15.blks M15.next M15.hide []:=⟨_,rfl⟩
 have X30:Ext (Mem.mk M0.blks M0.next M0.hide []) R28:=by rw[eR29];exact Ext.aside (X27)
 have lg31:R28.log= []:=by rw[eR29]
 have hM32:MemOk R28:=by rw[eR29];exact MemOk.log hM20
 have g33:R28.get C=some ⟨[i64 ((n:Int)),sli K 0 (n*n*5) (n*n*5+1),.func (.func 46) ⟨[pt B 0]⟩ ⟨[]⟩],73,3,0,true⟩:=by rw[eR29];exact g24
 have g34:R28.get K=some ⟨cur.map i64,3,1,0,true⟩:=by rw[eR29];exact g25
 have ltb1M15:b1<M15.next:=by have h:=Mem.lt_of_get g26;exact h
 have g35:R28.get b1=some ⟨[i64 a.f,i64 a.t,i64 a.m,i64 a.c,i64 a.e,i64 a.a,i64 a.b],42,7,0,true⟩:=by rw[eR29];exact g26
 have F36:=hx_still (R:=(pBA 53)) (M':=R28) F23 (fun id b h=>by rw[eR29];exact h)
 obtain⟨w37,N38,M39,p40,l41,e42,E43,hM44,F45⟩:=call_fc (x:=(y,z)) hM32 con46 (⟨⟨_,_,rfl,hx_out (R:=(pBA 53)) F36,rfl⟩,hz (by intro e;rw[e] at cc0;cases cc0)⟩)
 have g49:=E43.old g34
 have g50:=E43.old g35
 have ew37:w37=i64 (costA y z):=F45
 subst ew37
 have lg51:M39.log= []:=by rw[←e42];exact lg31
 have X52:=X30.trans E43
 obtain⟨M53,ef54⟩: ∃m:Mem,m=(Mem.mk M39.blks M39.next M39.hide (M39.log++M15.log)):=⟨_,rfl⟩
 have X55:Ext M0 M53:=by rw[ef54];exact Ext.join (X27) (X52)
 have hM56:MemOk M53:=by rw[ef54];exact hM44
 have g58:M53.get K=some ⟨cur.map i64,3,1,0,true⟩:=by rw[ef54];exact g49
 have hraw:oT Try.prog [] 60 Try.f48 q48 [pt C 0,.agg ⟨[i64 a.f,i64 a.t,i64 a.m,i64 a.c,i64 a.e,i64 a.a,i64 a.b]⟩,i64 num] M [ttV 1 (pt b1 0) M2,ttL 9 (i64 a.f),ttL 13 (i64 a.t),ttL 17 (i64 a.m),ttV 19 (i64 (plI (n:Int) a.f a.t a.m)) M15,ttL 29 (sli K 0 (n*n*5) (n*n*5+1)),ttT 33,ttL 35 (i64 z),ttT 44,ttT 46,ttT 48,ttT 50,ttL 51 (.func (.func 46) ⟨[pt B 0]⟩ ⟨[]⟩),ttT 52,ttT 54,ttV 55 (i64 (costA y z)) M39,ttT 56,ttT 58,ttL 59 (i64 a.c),ttT 60,ttT 63,ttT 64] 6=some (.ret,some (.bool false),Mem.mk M39.blks M39.next M15.hide (M39.log++M15.log),[.eq (abox Try.prog 42 (.agg ⟨[i64 a.f,i64 a.t,i64 a.m,i64 a.c,i64 a.e,i64 a.a,i64 a.b]⟩) M) (1,.val (pt b1 0),M2),qL 3 b1 0 M2 (i64 a.f),qL 3 b1 1 M2 (i64 a.t),qL 3 b1 2 M2 (i64 a.m),qC 72 [pt C 0,i64 a.f,i64 a.t,i64 a.m] M2 (i64 (plI (n:Int) a.f a.t a.m)) M15,qL 22 C 1 M15 (sli K 0 (n*n*5) (n*n*5+1)),.q (.inb (plI (n:Int) a.f a.t a.m) (n*n*5)) (ansB true),qL 3 K (0+(plI (n:Int) a.f a.t a.m:Int).toNat*1) M15 (i64 z),qT (!(z==(-1:Int))),qT (!(z==(-1:Int))),qT (!(z==(-1:Int))),qT (!(z==(-1:Int))),qL 70 C 2 (Mem.mk M15.blks M15.next M15.hide []) (.func (.func 46) ⟨[pt B 0]⟩ ⟨[]⟩),qT (!(z==(-1:Int))),qT (!(z==(-1:Int))),qC 46 [pt B 0,i64 z] (Mem.mk M15.blks M15.next M15.hide []) (i64 (costA y z)) M39,qT (!(z==(-1:Int))),qT (!(z==(-1:Int))),qL 3 b1 3 (Mem.mk M39.blks M39.next (hides 519 [⟨8,1,M15.next,M39.next⟩,⟨6,1,M15.next,M15.next⟩]++M15.hide) M39.log) (i64 a.c),qT (Nat.blt b1 M15.next),qT (!(z==(-1:Int))),qT (!(z==(-1:Int))),qT (apartN [b1] M39.log),qT (decide ((costA y z)≤a.c))]):=by kernel_rfl
 have rw0:Mem.mk M15.blks M15.next M15.hide []=R28:=eR29.symm
 have rw2:Mem.mk M39.blks M39.next (hides 519 [⟨8,1,M15.next,M39.next⟩,⟨6,1,M15.next,M15.next⟩]++M15.hide) M39.log=hidx (hides 519 [⟨8,1,M15.next,M39.next⟩,⟨6,1,M15.next,M15.next⟩]) M39:=by rw[(show M15.hide=M39.hide from((X27).hide.trans (X52).hide.symm))];rfl
 have rw3:(Mem.mk M39.blks M39.next M15.hide (M39.log++M15.log))=(Mem.mk M39.blks M39.next M39.hide (M39.log++M15.log)):=by rw[(show M15.hide=M39.hide from((X27).hide.trans (X52).hide.symm))]
 have rw4:(Mem.mk M39.blks M39.next M39.hide (M39.log++M15.log))=M53:=ef54.symm
 try rw[rw0] at hraw
 try rw[rw2] at hraw
 try rw[rw3] at hraw
 try rw[rw4] at hraw
 have hkp: ∀id k,M.get id=some k→id≠K→M53.get id=some k:=fun id k g h_K=>by
  have g:=E6.old g
  have g:=E19.old g
  have g:R28.get id=some k:=by rw[eR29];exact g
  have g:=E43.old g
  have g:M53.get id=some k:=by rw[ef54];exact g
  exact g
 exact⟨M53,Ev.told_tmp noNumP mixedP Try.func48 q48_ok (by kernel_rfl) rK48 (fun B=>sb0 (sbQ 46 Q46 (sbQ 72 Q72 (sbN _)))) (fun _ _=>rfl) hraw (hk (q_eq (by rw[←eb3,←em4];kernel_rfl) Nat.one_ne_zero) (hk (lC dC3 g5 rfl) (hk (lC dC3 g5 rfl) (hk (lC dC3 g5 rfl) (hk (q_call rfl p16 l17 e18) (hk (lC dC22 g24 rfl) (hk (q_inb hi0.1 hi0.2) (hk (q_ld (aload_cell (a:=⟨K,0+(plI (n:Int) a.f a.t a.m:Int).toNat*1,none⟩) dC3 g25 hc1)) (hk (bT (by rw[cc0];rfl)) (hk (bT (by rw[cc0];rfl)) (hk (bT (by rw[cc0];rfl)) (hk (bT (by rw[cc0];rfl)) (hk (lC dC70 g33 rfl) (hk (bT (by rw[cc0];rfl)) (hk (bT (by rw[cc0];rfl)) (hk (q_call rfl p40 l41 e42) (hk (bT (by rw[cc0];rfl)) (hk (bT (by rw[cc0];rfl)) (hk (lC dC3 (hidx_get.2 ⟨hides_low (by simp;omega),g50⟩) rfl) (hk (q_lt ltb1M15) (hk (bT (by rw[cc0];rfl)) (hk (bT (by rw[cc0];rfl)) (hk (q_apart (by rw[lg51];simp<;>omega)) (hk (bT cc1) hn)))))))))))))))))))))))),X55,hM56,g58,hkp⟩
theorem w48A2(B C K n:Nat)(cur:List Int)(a:A7)(num:Int)(y:List A7)(z:Int){M M0:Mem}(hM:MemOk M)(X0:Ext M0 M)(gC:M.get C=some ⟨[i64 n,sli K 0 (n*n*5) (n*n*5+1),.func (.func 46) ⟨[pt B 0]⟩ ⟨[]⟩],73,3,0,true⟩)(gK:M.get K=some ⟨cur.map i64,3,1,0,true⟩)(nK:M0.next≤K)(dCK:C≠K)(hY:(pBA 53) y (pt B 0) (hidx [(K,K+1)] M))(hcl:cur.length=n*n*5)(hrange:n≤60∧(0≤a.f∧a.f<(n:Int))∧(0≤a.t∧a.t<(n:Int))∧(0≤a.m∧a.m<5))(hz:z≠ -1→0≤z∧z<(y.length:Int))(cc0:(z==(-1:Int))=false)(cc1:(decide ((costA y z)≤a.c))=false)(hi0:0≤(plI (n:Int) a.f a.t a.m:Int)∧(plI (n:Int) a.f a.t a.m:Int)<(n*n*5))(hc1:((cur.map i64))[0+(plI (n:Int) a.f a.t a.m:Int).toNat*1]?=some (i64 z))(hof2:0+(plI (n:Int) a.f a.t a.m:Int).toNat*1+1≤((cur.map i64)).length): ∃M',Ev Try.prog [] 48 [pt C 0,.agg ⟨[i64 a.f,i64 a.t,i64 a.m,i64 a.c,i64 a.e,i64 a.a,i64 a.b]⟩,i64 num] M (.bool true) M'∧Ext M0 M'∧MemOk M'∧M'.get K=some ⟨splice (cur.map i64) (0+(plI (n:Int) a.f a.t a.m:Int).toNat*1) [i64 num],3,1,0,true⟩∧(∀id k,M.get id=some k→id≠K→M'.get id=some k):=by
 obtain⟨b1,M2,eb3,em4,g5,E6,hM7⟩:=new_t hM ⟨[i64 a.f,i64 a.t,i64 a.m,i64 a.c,i64 a.e,i64 a.a,i64 a.b],42,7,0,true⟩
 have F8:=hx_new (R:=(pBA 53)) hY eb3 E6
 have g9:=E6.old gC
 have g10:=E6.old gK
 have X12:=X0.trans E6
 obtain⟨w13,N14,M15,p16,l17,e18,E19,hM20,F21⟩:=call_fc (x:=((n,cur),a.f,a.t,a.m)) hM7 con72 (⟨⟨_,_,_,_,rfl,⟨C,K,n*n*5+1,.func (.func 46) ⟨[pt B 0]⟩ ⟨[]⟩,rfl,(by rw[hcl];exact g9),g10⟩,rfl,rfl,rfl⟩,hrange⟩)
 have F23:=hx_ext (R:=(pBA 53)) F8 E19
 have g24:=E19.old g9
 have g25:=E19.old g10
 have g26:=E19.old g5
 have ew13:w13=i64 (plI (n:Int) a.f a.t a.m):=F21
 subst ew13
 have X27:=X12.trans E19
 obtain⟨R28,eR29⟩: ∃m:Mem,m=Mem.mk M15.blks M15.next M15.hide []:=⟨_,rfl⟩
 have X30:Ext (Mem.mk M0.blks M0.next M0.hide []) R28:=by rw[eR29];exact Ext.aside (X27)
 have lg31:R28.log= []:=by rw[eR29]
 have hM32:MemOk R28:=by rw[eR29];exact MemOk.log hM20
 have g33:R28.get C=some ⟨[i64 ((n:Int)),sli K 0 (n*n*5) (n*n*5+1),.func (.func 46) ⟨[pt B 0]⟩ ⟨[]⟩],73,3,0,true⟩:=by rw[eR29];exact g24
 have g34:R28.get K=some ⟨cur.map i64,3,1,0,true⟩:=by rw[eR29];exact g25
 have ltb1M15:b1<M15.next:=by have h:=Mem.lt_of_get g26;exact h
 have g35:R28.get b1=some ⟨[i64 a.f,i64 a.t,i64 a.m,i64 a.c,i64 a.e,i64 a.a,i64 a.b],42,7,0,true⟩:=by rw[eR29];exact g26
 have F36:=hx_still (R:=(pBA 53)) (M':=R28) F23 (fun id b h=>by rw[eR29];exact h)
 obtain⟨w37,N38,M39,p40,l41,e42,E43,hM44,F45⟩:=call_fc (x:=(y,z)) hM32 con46 (⟨⟨_,_,rfl,hx_out (R:=(pBA 53)) F36,rfl⟩,hz (by intro e;rw[e] at cc0;cases cc0)⟩)
 have g48:=E43.old g33
 have g49:=E43.old g34
 have g50:=E43.old g35
 have ew37:w37=i64 (costA y z):=F45
 subst ew37
 have lg51:M39.log= []:=by rw[←e42];exact lg31
 have X52:=X30.trans E43
 obtain⟨M53,ef54⟩: ∃m:Mem,m=(Mem.mk M39.blks M39.next M39.hide (M39.log++M15.log)):=⟨_,rfl⟩
 have X55:Ext M0 M53:=by rw[ef54];exact Ext.join (X27) (X52)
 have hM56:MemOk M53:=by rw[ef54];exact hM44
 have g57:M53.get C=some ⟨[i64 ((n:Int)),sli K 0 (n*n*5) (n*n*5+1),.func (.func 46) ⟨[pt B 0]⟩ ⟨[]⟩],73,3,0,true⟩:=by rw[ef54];exact g48
 have g58:M53.get K=some ⟨cur.map i64,3,1,0,true⟩:=by rw[ef54];exact g49
 obtain⟨M61,q62,g63,kp64,X65,hM66,nx67⟩:=store_t (o:=0+(plI (n:Int) a.f a.t a.m:Int).toNat*1) (v:=(i64 num)) (new:=splice (cur.map i64) (0+(plI (n:Int) a.f a.t a.m:Int).toNat*1) [i64 num]) X55 nK hM56 dS3 g58 rfl rfl (Nat.zero_le _) hof2 rfl
 replace g63:M61.get K=some ⟨splice (cur.map i64) (0+(plI (n:Int) a.f a.t a.m:Int).toNat*1) [i64 num],3,1,0,true⟩:=g63
 have hraw:oT Try.prog [] 60 Try.f48 q48 [pt C 0,.agg ⟨[i64 a.f,i64 a.t,i64 a.m,i64 a.c,i64 a.e,i64 a.a,i64 a.b]⟩,i64 num] M [ttV 1 (pt b1 0) M2,ttL 9 (i64 a.f),ttL 13 (i64 a.t),ttL 17 (i64 a.m),ttV 19 (i64 (plI (n:Int) a.f a.t a.m)) M15,ttL 29 (sli K 0 (n*n*5) (n*n*5+1)),ttT 33,ttL 35 (i64 z),ttT 44,ttT 46,ttT 48,ttT 50,ttL 51 (.func (.func 46) ⟨[pt B 0]⟩ ⟨[]⟩),ttT 52,ttT 54,ttV 55 (i64 (costA y z)) M39,ttT 56,ttT 58,ttL 59 (i64 a.c),ttT 60,ttT 63,ttF 64,ttL 72 (sli K 0 (n*n*5) (n*n*5+1)),ttT 78,ttS 80 M61] 6=some (.ret,some (.bool true),M61,[.eq (abox Try.prog 42 (.agg ⟨[i64 a.f,i64 a.t,i64 a.m,i64 a.c,i64 a.e,i64 a.a,i64 a.b]⟩) M) (1,.val (pt b1 0),M2),qL 3 b1 0 M2 (i64 a.f),qL 3 b1 1 M2 (i64 a.t),qL 3 b1 2 M2 (i64 a.m),qC 72 [pt C 0,i64 a.f,i64 a.t,i64 a.m] M2 (i64 (plI (n:Int) a.f a.t a.m)) M15,qL 22 C 1 M15 (sli K 0 (n*n*5) (n*n*5+1)),.q (.inb (plI (n:Int) a.f a.t a.m) (n*n*5)) (ansB true),qL 3 K (0+(plI (n:Int) a.f a.t a.m:Int).toNat*1) M15 (i64 z),qT (!(z==(-1:Int))),qT (!(z==(-1:Int))),qT (!(z==(-1:Int))),qT (!(z==(-1:Int))),qL 70 C 2 (Mem.mk M15.blks M15.next M15.hide []) (.func (.func 46) ⟨[pt B 0]⟩ ⟨[]⟩),qT (!(z==(-1:Int))),qT (!(z==(-1:Int))),qC 46 [pt B 0,i64 z] (Mem.mk M15.blks M15.next M15.hide []) (i64 (costA y z)) M39,qT (!(z==(-1:Int))),qT (!(z==(-1:Int))),qL 3 b1 3 (Mem.mk M39.blks M39.next (hides 519 [⟨8,1,M15.next,M39.next⟩,⟨6,1,M15.next,M15.next⟩]++M15.hide) M39.log) (i64 a.c),qT (Nat.blt b1 M15.next),qT (!(z==(-1:Int))),qT (!(z==(-1:Int))),qT (apartN [b1] M39.log),qF (decide ((costA y z)≤a.c)),qL 22 C 1 (Mem.mk M39.blks M39.next M15.hide (M39.log++M15.log)) (sli K 0 (n*n*5) (n*n*5+1)),.q (.inb (plI (n:Int) a.f a.t a.m) (n*n*5)) (ansB true),qS 3 K (0+(plI (n:Int) a.f a.t a.m:Int).toNat*1) (i64 num) (Mem.mk M39.blks M39.next M15.hide (M39.log++M15.log)) M61]):=by kernel_rfl
 have rw0:Mem.mk M15.blks M15.next M15.hide []=R28:=eR29.symm
 have rw2:Mem.mk M39.blks M39.next (hides 519 [⟨8,1,M15.next,M39.next⟩,⟨6,1,M15.next,M15.next⟩]++M15.hide) M39.log=hidx (hides 519 [⟨8,1,M15.next,M39.next⟩,⟨6,1,M15.next,M15.next⟩]) M39:=by rw[(show M15.hide=M39.hide from((X27).hide.trans (X52).hide.symm))];rfl
 have rw3:(Mem.mk M39.blks M39.next M15.hide (M39.log++M15.log))=(Mem.mk M39.blks M39.next M39.hide (M39.log++M15.log)):=by rw[(show M15.hide=M39.hide from((X27).hide.trans (X52).hide.symm))]
 have rw4:(Mem.mk M39.blks M39.next M39.hide (M39.log++M15.log))=M53:=ef54.symm
 try rw[rw0] at hraw
 try rw[rw2] at hraw
 try rw[rw3] at hraw
 try rw[rw4] at hraw
 have hkp: ∀id k,M.get id=some k→id≠K→M61.get id=some k:=fun id k g h_K=>by
  have g:=E6.old g
  have g:=E19.old g
  have g:R28.get id=some k:=by rw[eR29];exact g
  have g:=E43.old g
  have g:M53.get id=some k:=by rw[ef54];exact g
  have g:=((fun id h _=>kp64 id h) id h_K (Mem.lt_of_get g)).trans g
  exact g
 exact⟨M61,Ev.told_tmp noNumP mixedP Try.func48 q48_ok (by kernel_rfl) rK48 (fun B=>sb0 (sbQ 46 Q46 (sbQ 72 Q72 (sbN _)))) (fun _ _=>rfl) hraw (hk (q_eq (by rw[←eb3,←em4];kernel_rfl) Nat.one_ne_zero) (hk (lC dC3 g5 rfl) (hk (lC dC3 g5 rfl) (hk (lC dC3 g5 rfl) (hk (q_call rfl p16 l17 e18) (hk (lC dC22 g24 rfl) (hk (q_inb hi0.1 hi0.2) (hk (q_ld (aload_cell (a:=⟨K,0+(plI (n:Int) a.f a.t a.m:Int).toNat*1,none⟩) dC3 g25 hc1)) (hk (bT (by rw[cc0];rfl)) (hk (bT (by rw[cc0];rfl)) (hk (bT (by rw[cc0];rfl)) (hk (bT (by rw[cc0];rfl)) (hk (lC dC70 g33 rfl) (hk (bT (by rw[cc0];rfl)) (hk (bT (by rw[cc0];rfl)) (hk (q_call rfl p40 l41 e42) (hk (bT (by rw[cc0];rfl)) (hk (bT (by rw[cc0];rfl)) (hk (lC dC3 (hidx_get.2 ⟨hides_low (by simp;omega),g50⟩) rfl) (hk (q_lt ltb1M15) (hk (bT (by rw[cc0];rfl)) (hk (bT (by rw[cc0];rfl)) (hk (q_apart (by rw[lg51];simp<;>omega)) (hk (bF cc1) (hk (lC dC22 g57 rfl) (hk (q_inb hi0.1 hi0.2) (hk (q_st q62) hn))))))))))))))))))))))))))),X65,hM66,g63,hkp⟩
theorem con48A{x:LX (List A7)}{lv:List Value}{M:Mem}(hM:MemOk M)(h:(obL 73 46 costA (pBA 53) (fun y i=>0≤i∧i<(y.length:Int))).A x lv M)(hlo:x.K≤M.next): ∃v M',TO Try.prog 48 (obL 73 46 costA (pBA 53) (fun y i=>0≤i∧i<(y.length:Int))) lv M v M':=by
 have hA:=h
 obtain⟨C,K,B,n,cur,y,a,num⟩:=x
 obtain⟨rfl,gC,gK,hY,dCK,hn,hcl,hf,ht,hm,hok⟩:=h
 simp only at gC gK hY dCK hn hcl hf ht hm hok hlo
 have X0:=Ext.cut hlo
 have nK:(cut K M).next≤K:=Nat.le_refl _
 have hp:=pl_range hf ht hm
 have hrange:n≤60∧(0≤a.f∧a.f<(n:Int))∧(0≤a.t∧a.t<(n:Int))∧(0≤a.m∧a.m<5):=⟨hn,hf,ht,hm⟩
 have hz:curAt cur (atP n a)≠ -1→0≤curAt cur (atP n a)∧curAt cur (atP n a)<(y.length:Int):=fun e=>hok.resolve_left e
 have hin:0≤((plI (n:Int) (a.f) (a.t) (a.m)):Int)∧((plI (n:Int) (a.f) (a.t) (a.m)):Int)<(n*n*5):=by refine⟨hp.1,?_⟩;have:=hp.2;push_cast at this⊢;exact this
 have hk:atP n a<cur.length:=by rw[hcl];unfold atP;omega
 have hat:0+((plI (n:Int) (a.f) (a.t) (a.m)):Int).toNat*1=atP n a:=by unfold atP;omega
 have hcc:(cur.map i64)[0+((plI (n:Int) (a.f) (a.t) (a.m)):Int).toNat*1]?=some (i64 (curAt cur (atP n a))):=by rw[hat,List.getElem?_map,curAt_some hk];rfl
 have hof:0+((plI (n:Int) (a.f) (a.t) (a.m)):Int).toNat*1+1≤(cur.map i64).length:=by rw[hat,List.length_map];omega
 have hspl:splice (cur.map i64) (0+((plI (n:Int) (a.f) (a.t) (a.m)):Int).toNat*1) [i64 num]=(cur.set (atP n a) num).map i64:=by rw[hat,splice_one _ _ _ (by simpa using hk),List.map_set]
 have fin: ∀{bv:Bool} {cu:List Int} {M':Mem},Ev Try.prog [] 48 [pt C 0,.agg ⟨aRow a⟩,i64 num] M (.bool bv) M'→Ext (cut K M) M'→M'.get K=some ⟨cu.map i64,3,1,0,true⟩→(∀id k,M.get id=some k→id≠K→M'.get id=some k)→bv=isLow (costA y) (curAt cur (atP n a)) a.c→cu=lowCur costA ⟨C,K,B,n,cur,y,a,num⟩→ ∃v M',TO Try.prog 48 (obL 73 46 costA (pBA 53) (fun y i=>0≤i∧i<(y.length:Int))) [pt C 0,.agg ⟨aRow a⟩,i64 num] M v M':=
  fun h1 h2 h3 h4 e1 e2=>⟨_,_,h1,⟨C,K,B,n,cur,y,a,num⟩,hA,hlo,h2,h4,by rw[e1],by rw[←e2];exact h3⟩
 cases c0:curAt cur (atP n a)==(-1:Int) with
 |true=>
  obtain⟨M',h1,h2,h3,h4,h5⟩:=w48A0 B C K n cur a num y (curAt cur (atP n a)) hM X0 gC gK nK dCK hY hcl hrange hz c0 hin hcc hof
  rw[hspl] at h4
  exact fin h1 h2 h4 h5 (by simp [isLow,c0]) (by simp [lowCur,isLow,c0])
 |false=>
  cases c1:decide (costA y (curAt cur (atP n a))≤a.c) with
  |true=>
   obtain⟨M',h1,h2,h3,h4,h5⟩:=w48A1 B C K n cur a num y (curAt cur (atP n a)) hM X0 gC gK nK dCK hY hcl hrange hz c0 c1 hin hcc
   have e:isLow (costA y) (curAt cur (atP n a)) a.c=false:=by simp only [isLow,c0,Bool.false_or];exact decide_eq_false (by have:=of_decide_eq_true c1;omega)
   exact fin h1 h2 h4 h5 e.symm (by simp [lowCur,e])
  |false=>
   obtain⟨M',h1,h2,h3,h4,h5⟩:=w48A2 B C K n cur a num y (curAt cur (atP n a)) hM X0 gC gK nK dCK hY hcl hrange hz c0 c1 hin hcc hof
   rw[hspl] at h4
   have e:isLow (costA y) (curAt cur (atP n a)) a.c=true:=by simp only [isLow,c0,Bool.false_or];exact decide_eq_true (by have:=of_decide_eq_false c1;omega)
   exact fin h1 h2 h4 h5 e.symm (by simp [lowCur,e])
theorem w48E0(B C K n:Nat)(cur:List Int)(a:A7)(num:Int)(y:List E4)(z:Int){M M0:Mem}(hM:MemOk M)(X0:Ext M0 M)(gC:M.get C=some ⟨[i64 n,sli K 0 (n*n*5) (n*n*5+1),.func (.func 47) ⟨[pt B 0]⟩ ⟨[]⟩],73,3,0,true⟩)(gK:M.get K=some ⟨cur.map i64,3,1,0,true⟩)(nK:M0.next≤K)(dCK:C≠K)(hY:(pBE 53) y (pt B 0) (hidx [(K,K+1)] M))(hcl:cur.length=n*n*5)(hrange:n≤60∧(0≤a.f∧a.f<(n:Int))∧(0≤a.t∧a.t<(n:Int))∧(0≤a.m∧a.m<5))(hz:z≠ -1→0≤z∧z<(y.length:Int))(cc0:(z==(-1:Int))=true)(hi0:0≤(plI (n:Int) a.f a.t a.m:Int)∧(plI (n:Int) a.f a.t a.m:Int)<(n*n*5))(hc1:((cur.map i64))[0+(plI (n:Int) a.f a.t a.m:Int).toNat*1]?=some (i64 z))(hof2:0+(plI (n:Int) a.f a.t a.m:Int).toNat*1+1≤((cur.map i64)).length): ∃M',Ev Try.prog [] 48 [pt C 0,.agg ⟨[i64 a.f,i64 a.t,i64 a.m,i64 a.c,i64 a.e,i64 a.a,i64 a.b]⟩,i64 num] M (.bool true) M'∧Ext M0 M'∧MemOk M'∧M'.get K=some ⟨splice (cur.map i64) (0+(plI (n:Int) a.f a.t a.m:Int).toNat*1) [i64 num],3,1,0,true⟩∧(∀id k,M.get id=some k→id≠K→M'.get id=some k):=by
 obtain⟨b1,M2,eb3,em4,g5,E6,hM7⟩:=new_t hM ⟨[i64 a.f,i64 a.t,i64 a.m,i64 a.c,i64 a.e,i64 a.a,i64 a.b],42,7,0,true⟩
 have g9:=E6.old gC
 have g10:=E6.old gK
 have X12:=X0.trans E6
 obtain⟨w13,N14,M15,p16,l17,e18,E19,hM20,F21⟩:=call_fc (x:=((n,cur),a.f,a.t,a.m)) hM7 con72 (⟨⟨_,_,_,_,rfl,⟨C,K,n*n*5+1,.func (.func 47) ⟨[pt B 0]⟩ ⟨[]⟩,rfl,(by rw[hcl];exact g9),g10⟩,rfl,rfl,rfl⟩,hrange⟩)
 have g24:=E19.old g9
 have g25:=E19.old g10
 have ew13:w13=i64 (plI (n:Int) a.f a.t a.m):=F21
 subst ew13
 have X27:=X12.trans E19
 obtain⟨R28,eR29⟩: ∃m:Mem,m=Mem.mk M15.blks M15.next M15.hide []:=⟨_,rfl⟩
 have X30:Ext (Mem.mk M0.blks M0.next M0.hide []) R28:=by rw[eR29];exact Ext.aside (X27)
 have hM32:MemOk R28:=by rw[eR29];exact MemOk.log hM20
 have g33:R28.get C=some ⟨[i64 ((n:Int)),sli K 0 (n*n*5) (n*n*5+1),.func (.func 47) ⟨[pt B 0]⟩ ⟨[]⟩],73,3,0,true⟩:=by rw[eR29];exact g24
 have g34:R28.get K=some ⟨cur.map i64,3,1,0,true⟩:=by rw[eR29];exact g25
 obtain⟨M37,ef38⟩: ∃m:Mem,m=(Mem.mk R28.blks R28.next R28.hide (R28.log++M15.log)):=⟨_,rfl⟩
 have X39:Ext M0 M37:=by rw[ef38];exact Ext.join (X27) (X30)
 have hM40:MemOk M37:=by rw[ef38];exact hM32
 have g41:M37.get C=some ⟨[i64 ((n:Int)),sli K 0 (n*n*5) (n*n*5+1),.func (.func 47) ⟨[pt B 0]⟩ ⟨[]⟩],73,3,0,true⟩:=by rw[ef38];exact g33
 have g42:M37.get K=some ⟨cur.map i64,3,1,0,true⟩:=by rw[ef38];exact g34
 obtain⟨M45,q46,g47,kp48,X49,hM50,nx51⟩:=store_t (o:=0+(plI (n:Int) a.f a.t a.m:Int).toNat*1) (v:=(i64 num)) (new:=splice (cur.map i64) (0+(plI (n:Int) a.f a.t a.m:Int).toNat*1) [i64 num]) X39 nK hM40 dS3 g42 rfl rfl (Nat.zero_le _) hof2 rfl
 replace g47:M45.get K=some ⟨splice (cur.map i64) (0+(plI (n:Int) a.f a.t a.m:Int).toNat*1) [i64 num],3,1,0,true⟩:=g47
 have hraw:oT Try.prog [] 60 Try.f48 q48 [pt C 0,.agg ⟨[i64 a.f,i64 a.t,i64 a.m,i64 a.c,i64 a.e,i64 a.a,i64 a.b]⟩,i64 num] M [ttV 1 (pt b1 0) M2,ttL 9 (i64 a.f),ttL 13 (i64 a.t),ttL 17 (i64 a.m),ttV 19 (i64 (plI (n:Int) a.f a.t a.m)) M15,ttL 29 (sli K 0 (n*n*5) (n*n*5+1)),ttT 33,ttL 35 (i64 z),ttF 44,ttF 46,ttF 48,ttF 50,ttF 52,ttF 54,ttF 56,ttF 58,ttF 60,ttF 63,ttL 72 (sli K 0 (n*n*5) (n*n*5+1)),ttT 78,ttS 80 M45] 6=some (.ret,some (.bool true),M45,[.eq (abox Try.prog 42 (.agg ⟨[i64 a.f,i64 a.t,i64 a.m,i64 a.c,i64 a.e,i64 a.a,i64 a.b]⟩) M) (1,.val (pt b1 0),M2),qL 3 b1 0 M2 (i64 a.f),qL 3 b1 1 M2 (i64 a.t),qL 3 b1 2 M2 (i64 a.m),qC 72 [pt C 0,i64 a.f,i64 a.t,i64 a.m] M2 (i64 (plI (n:Int) a.f a.t a.m)) M15,qL 22 C 1 M15 (sli K 0 (n*n*5) (n*n*5+1)),.q (.inb (plI (n:Int) a.f a.t a.m) (n*n*5)) (ansB true),qL 3 K (0+(plI (n:Int) a.f a.t a.m:Int).toNat*1) M15 (i64 z),qF (!(z==(-1:Int))),qF (!(z==(-1:Int))),qF (!(z==(-1:Int))),qF (!(z==(-1:Int))),qF (!(z==(-1:Int))),qF (!(z==(-1:Int))),qF (!(z==(-1:Int))),qF (!(z==(-1:Int))),qF (!(z==(-1:Int))),qF (!(z==(-1:Int))),qT (apartN [] []),qL 22 C 1 (Mem.mk M15.blks M15.next M15.hide ([]++M15.log)) (sli K 0 (n*n*5) (n*n*5+1)),.q (.inb (plI (n:Int) a.f a.t a.m) (n*n*5)) (ansB true),qS 3 K (0+(plI (n:Int) a.f a.t a.m:Int).toNat*1) (i64 num) (Mem.mk M15.blks M15.next M15.hide ([]++M15.log)) M45]):=by kernel_rfl
 have rw1:(Mem.mk M15.blks M15.next M15.hide ([]++M15.log))=(Mem.mk R28.blks R28.next R28.hide (R28.log++M15.log)):=by rw[eR29]
 have rw2:(Mem.mk R28.blks R28.next R28.hide (R28.log++M15.log))=M37:=ef38.symm
 try rw[rw1] at hraw
 try rw[rw2] at hraw
 have hkp: ∀id k,M.get id=some k→id≠K→M45.get id=some k:=fun id k g h_K=>by
  have g:=E6.old g
  have g:=E19.old g
  have g:R28.get id=some k:=by rw[eR29];exact g
  have g:M37.get id=some k:=by rw[ef38];exact g
  have g:=((fun id h _=>kp48 id h) id h_K (Mem.lt_of_get g)).trans g
  exact g
 exact⟨M45,Ev.told_tmp noNumP mixedP Try.func48 q48_ok (by kernel_rfl) rK48 (fun B=>sb0 (sbQ 72 Q72 (sbN _))) (fun _ _=>rfl) hraw (hk (q_eq (by rw[←eb3,←em4];kernel_rfl) Nat.one_ne_zero) (hk (lC dC3 g5 rfl) (hk (lC dC3 g5 rfl) (hk (lC dC3 g5 rfl) (hk (q_call rfl p16 l17 e18) (hk (lC dC22 g24 rfl) (hk (q_inb hi0.1 hi0.2) (hk (q_ld (aload_cell (a:=⟨K,0+(plI (n:Int) a.f a.t a.m:Int).toNat*1,none⟩) dC3 g25 hc1)) (hk (bF (by rw[cc0];rfl)) (hk (bF (by rw[cc0];rfl)) (hk (bF (by rw[cc0];rfl)) (hk (bF (by rw[cc0];rfl)) (hk (bF (by rw[cc0];rfl)) (hk (bF (by rw[cc0];rfl)) (hk (bF (by rw[cc0];rfl)) (hk (bF (by rw[cc0];rfl)) (hk (bF (by rw[cc0];rfl)) (hk (bF (by rw[cc0];rfl)) (hk (q_apart (by simp)) (hk (lC dC22 g41 rfl) (hk (q_inb hi0.1 hi0.2) (hk (q_st q46) hn)))))))))))))))))))))),X49,hM50,g47,hkp⟩
theorem w48E1(B C K n:Nat)(cur:List Int)(a:A7)(num:Int)(y:List E4)(z:Int){M M0:Mem}(hM:MemOk M)(X0:Ext M0 M)(gC:M.get C=some ⟨[i64 n,sli K 0 (n*n*5) (n*n*5+1),.func (.func 47) ⟨[pt B 0]⟩ ⟨[]⟩],73,3,0,true⟩)(gK:M.get K=some ⟨cur.map i64,3,1,0,true⟩)(nK:M0.next≤K)(dCK:C≠K)(hY:(pBE 53) y (pt B 0) (hidx [(K,K+1)] M))(hcl:cur.length=n*n*5)(hrange:n≤60∧(0≤a.f∧a.f<(n:Int))∧(0≤a.t∧a.t<(n:Int))∧(0≤a.m∧a.m<5))(hz:z≠ -1→0≤z∧z<(y.length:Int))(cc0:(z==(-1:Int))=false)(cc1:(decide ((costE y z)≤a.c))=true)(hi0:0≤(plI (n:Int) a.f a.t a.m:Int)∧(plI (n:Int) a.f a.t a.m:Int)<(n*n*5))(hc1:((cur.map i64))[0+(plI (n:Int) a.f a.t a.m:Int).toNat*1]?=some (i64 z)): ∃M',Ev Try.prog [] 48 [pt C 0,.agg ⟨[i64 a.f,i64 a.t,i64 a.m,i64 a.c,i64 a.e,i64 a.a,i64 a.b]⟩,i64 num] M (.bool false) M'∧Ext M0 M'∧MemOk M'∧M'.get K=some ⟨cur.map i64,3,1,0,true⟩∧(∀id k,M.get id=some k→id≠K→M'.get id=some k):=by
 obtain⟨b1,M2,eb3,em4,g5,E6,hM7⟩:=new_t hM ⟨[i64 a.f,i64 a.t,i64 a.m,i64 a.c,i64 a.e,i64 a.a,i64 a.b],42,7,0,true⟩
 have F8:=hx_new (R:=(pBE 53)) hY eb3 E6
 have g9:=E6.old gC
 have g10:=E6.old gK
 have X12:=X0.trans E6
 obtain⟨w13,N14,M15,p16,l17,e18,E19,hM20,F21⟩:=call_fc (x:=((n,cur),a.f,a.t,a.m)) hM7 con72 (⟨⟨_,_,_,_,rfl,⟨C,K,n*n*5+1,.func (.func 47) ⟨[pt B 0]⟩ ⟨[]⟩,rfl,(by rw[hcl];exact g9),g10⟩,rfl,rfl,rfl⟩,hrange⟩)
 have F23:=hx_ext (R:=(pBE 53)) F8 E19
 have g24:=E19.old g9
 have g25:=E19.old g10
 have g26:=E19.old g5
 have ew13:w13=i64 (plI (n:Int) a.f a.t a.m):=F21
 subst ew13
 have X27:=X12.trans E19
 obtain⟨R28,eR29⟩: ∃m:Mem,m=Mem.mk M15.blks M15.next M15.hide []:=⟨_,rfl⟩
 have X30:Ext (Mem.mk M0.blks M0.next M0.hide []) R28:=by rw[eR29];exact Ext.aside (X27)
 have lg31:R28.log= []:=by rw[eR29]
 have hM32:MemOk R28:=by rw[eR29];exact MemOk.log hM20
 have g33:R28.get C=some ⟨[i64 ((n:Int)),sli K 0 (n*n*5) (n*n*5+1),.func (.func 47) ⟨[pt B 0]⟩ ⟨[]⟩],73,3,0,true⟩:=by rw[eR29];exact g24
 have g34:R28.get K=some ⟨cur.map i64,3,1,0,true⟩:=by rw[eR29];exact g25
 have ltb1M15:b1<M15.next:=by have h:=Mem.lt_of_get g26;exact h
 have g35:R28.get b1=some ⟨[i64 a.f,i64 a.t,i64 a.m,i64 a.c,i64 a.e,i64 a.a,i64 a.b],42,7,0,true⟩:=by rw[eR29];exact g26
 have F36:=hx_still (R:=(pBE 53)) (M':=R28) F23 (fun id b h=>by rw[eR29];exact h)
 obtain⟨w37,N38,M39,p40,l41,e42,E43,hM44,F45⟩:=call_fc (x:=(y,z)) hM32 con47 (⟨⟨_,_,rfl,hx_out (R:=(pBE 53)) F36,rfl⟩,hz (by intro e;rw[e] at cc0;cases cc0)⟩)
 have g49:=E43.old g34
 have g50:=E43.old g35
 have ew37:w37=i64 (costE y z):=F45
 subst ew37
 have lg51:M39.log= []:=by rw[←e42];exact lg31
 have X52:=X30.trans E43
 obtain⟨M53,ef54⟩: ∃m:Mem,m=(Mem.mk M39.blks M39.next M39.hide (M39.log++M15.log)):=⟨_,rfl⟩
 have X55:Ext M0 M53:=by rw[ef54];exact Ext.join (X27) (X52)
 have hM56:MemOk M53:=by rw[ef54];exact hM44
 have g58:M53.get K=some ⟨cur.map i64,3,1,0,true⟩:=by rw[ef54];exact g49
 have hraw:oT Try.prog [] 60 Try.f48 q48 [pt C 0,.agg ⟨[i64 a.f,i64 a.t,i64 a.m,i64 a.c,i64 a.e,i64 a.a,i64 a.b]⟩,i64 num] M [ttV 1 (pt b1 0) M2,ttL 9 (i64 a.f),ttL 13 (i64 a.t),ttL 17 (i64 a.m),ttV 19 (i64 (plI (n:Int) a.f a.t a.m)) M15,ttL 29 (sli K 0 (n*n*5) (n*n*5+1)),ttT 33,ttL 35 (i64 z),ttT 44,ttT 46,ttT 48,ttT 50,ttL 51 (.func (.func 47) ⟨[pt B 0]⟩ ⟨[]⟩),ttT 52,ttT 54,ttV 55 (i64 (costE y z)) M39,ttT 56,ttT 58,ttL 59 (i64 a.c),ttT 60,ttT 63,ttT 64] 6=some (.ret,some (.bool false),Mem.mk M39.blks M39.next M15.hide (M39.log++M15.log),[.eq (abox Try.prog 42 (.agg ⟨[i64 a.f,i64 a.t,i64 a.m,i64 a.c,i64 a.e,i64 a.a,i64 a.b]⟩) M) (1,.val (pt b1 0),M2),qL 3 b1 0 M2 (i64 a.f),qL 3 b1 1 M2 (i64 a.t),qL 3 b1 2 M2 (i64 a.m),qC 72 [pt C 0,i64 a.f,i64 a.t,i64 a.m] M2 (i64 (plI (n:Int) a.f a.t a.m)) M15,qL 22 C 1 M15 (sli K 0 (n*n*5) (n*n*5+1)),.q (.inb (plI (n:Int) a.f a.t a.m) (n*n*5)) (ansB true),qL 3 K (0+(plI (n:Int) a.f a.t a.m:Int).toNat*1) M15 (i64 z),qT (!(z==(-1:Int))),qT (!(z==(-1:Int))),qT (!(z==(-1:Int))),qT (!(z==(-1:Int))),qL 70 C 2 (Mem.mk M15.blks M15.next M15.hide []) (.func (.func 47) ⟨[pt B 0]⟩ ⟨[]⟩),qT (!(z==(-1:Int))),qT (!(z==(-1:Int))),qC 47 [pt B 0,i64 z] (Mem.mk M15.blks M15.next M15.hide []) (i64 (costE y z)) M39,qT (!(z==(-1:Int))),qT (!(z==(-1:Int))),qL 3 b1 3 (Mem.mk M39.blks M39.next (hides 519 [⟨8,1,M15.next,M39.next⟩,⟨6,1,M15.next,M15.next⟩]++M15.hide) M39.log) (i64 a.c),qT (Nat.blt b1 M15.next),qT (!(z==(-1:Int))),qT (!(z==(-1:Int))),qT (apartN [b1] M39.log),qT (decide ((costE y z)≤a.c))]):=by kernel_rfl
 have rw0:Mem.mk M15.blks M15.next M15.hide []=R28:=eR29.symm
 have rw2:Mem.mk M39.blks M39.next (hides 519 [⟨8,1,M15.next,M39.next⟩,⟨6,1,M15.next,M15.next⟩]++M15.hide) M39.log=hidx (hides 519 [⟨8,1,M15.next,M39.next⟩,⟨6,1,M15.next,M15.next⟩]) M39:=by rw[(show M15.hide=M39.hide from((X27).hide.trans (X52).hide.symm))];rfl
 have rw3:(Mem.mk M39.blks M39.next M15.hide (M39.log++M15.log))=(Mem.mk M39.blks M39.next M39.hide (M39.log++M15.log)):=by rw[(show M15.hide=M39.hide from((X27).hide.trans (X52).hide.symm))]
 have rw4:(Mem.mk M39.blks M39.next M39.hide (M39.log++M15.log))=M53:=ef54.symm
 try rw[rw0] at hraw
 try rw[rw2] at hraw
 try rw[rw3] at hraw
 try rw[rw4] at hraw
 have hkp: ∀id k,M.get id=some k→id≠K→M53.get id=some k:=fun id k g h_K=>by
  have g:=E6.old g
  have g:=E19.old g
  have g:R28.get id=some k:=by rw[eR29];exact g
  have g:=E43.old g
  have g:M53.get id=some k:=by rw[ef54];exact g
  exact g
 exact⟨M53,Ev.told_tmp noNumP mixedP Try.func48 q48_ok (by kernel_rfl) rK48 (fun B=>sb0 (sbQ 47 Q47 (sbQ 72 Q72 (sbN _)))) (fun _ _=>rfl) hraw (hk (q_eq (by rw[←eb3,←em4];kernel_rfl) Nat.one_ne_zero) (hk (lC dC3 g5 rfl) (hk (lC dC3 g5 rfl) (hk (lC dC3 g5 rfl) (hk (q_call rfl p16 l17 e18) (hk (lC dC22 g24 rfl) (hk (q_inb hi0.1 hi0.2) (hk (q_ld (aload_cell (a:=⟨K,0+(plI (n:Int) a.f a.t a.m:Int).toNat*1,none⟩) dC3 g25 hc1)) (hk (bT (by rw[cc0];rfl)) (hk (bT (by rw[cc0];rfl)) (hk (bT (by rw[cc0];rfl)) (hk (bT (by rw[cc0];rfl)) (hk (lC dC70 g33 rfl) (hk (bT (by rw[cc0];rfl)) (hk (bT (by rw[cc0];rfl)) (hk (q_call rfl p40 l41 e42) (hk (bT (by rw[cc0];rfl)) (hk (bT (by rw[cc0];rfl)) (hk (lC dC3 (hidx_get.2 ⟨hides_low (by simp;omega),g50⟩) rfl) (hk (q_lt ltb1M15) (hk (bT (by rw[cc0];rfl)) (hk (bT (by rw[cc0];rfl)) (hk (q_apart (by rw[lg51];simp<;>omega)) (hk (bT cc1) hn)))))))))))))))))))))))),X55,hM56,g58,hkp⟩
theorem w48E2(B C K n:Nat)(cur:List Int)(a:A7)(num:Int)(y:List E4)(z:Int){M M0:Mem}(hM:MemOk M)(X0:Ext M0 M)(gC:M.get C=some ⟨[i64 n,sli K 0 (n*n*5) (n*n*5+1),.func (.func 47) ⟨[pt B 0]⟩ ⟨[]⟩],73,3,0,true⟩)(gK:M.get K=some ⟨cur.map i64,3,1,0,true⟩)(nK:M0.next≤K)(dCK:C≠K)(hY:(pBE 53) y (pt B 0) (hidx [(K,K+1)] M))(hcl:cur.length=n*n*5)(hrange:n≤60∧(0≤a.f∧a.f<(n:Int))∧(0≤a.t∧a.t<(n:Int))∧(0≤a.m∧a.m<5))(hz:z≠ -1→0≤z∧z<(y.length:Int))(cc0:(z==(-1:Int))=false)(cc1:(decide ((costE y z)≤a.c))=false)(hi0:0≤(plI (n:Int) a.f a.t a.m:Int)∧(plI (n:Int) a.f a.t a.m:Int)<(n*n*5))(hc1:((cur.map i64))[0+(plI (n:Int) a.f a.t a.m:Int).toNat*1]?=some (i64 z))(hof2:0+(plI (n:Int) a.f a.t a.m:Int).toNat*1+1≤((cur.map i64)).length): ∃M',Ev Try.prog [] 48 [pt C 0,.agg ⟨[i64 a.f,i64 a.t,i64 a.m,i64 a.c,i64 a.e,i64 a.a,i64 a.b]⟩,i64 num] M (.bool true) M'∧Ext M0 M'∧MemOk M'∧M'.get K=some ⟨splice (cur.map i64) (0+(plI (n:Int) a.f a.t a.m:Int).toNat*1) [i64 num],3,1,0,true⟩∧(∀id k,M.get id=some k→id≠K→M'.get id=some k):=by
 obtain⟨b1,M2,eb3,em4,g5,E6,hM7⟩:=new_t hM ⟨[i64 a.f,i64 a.t,i64 a.m,i64 a.c,i64 a.e,i64 a.a,i64 a.b],42,7,0,true⟩
 have F8:=hx_new (R:=(pBE 53)) hY eb3 E6
 have g9:=E6.old gC
 have g10:=E6.old gK
 have X12:=X0.trans E6
 obtain⟨w13,N14,M15,p16,l17,e18,E19,hM20,F21⟩:=call_fc (x:=((n,cur),a.f,a.t,a.m)) hM7 con72 (⟨⟨_,_,_,_,rfl,⟨C,K,n*n*5+1,.func (.func 47) ⟨[pt B 0]⟩ ⟨[]⟩,rfl,(by rw[hcl];exact g9),g10⟩,rfl,rfl,rfl⟩,hrange⟩)
 have F23:=hx_ext (R:=(pBE 53)) F8 E19
 have g24:=E19.old g9
 have g25:=E19.old g10
 have g26:=E19.old g5
 have ew13:w13=i64 (plI (n:Int) a.f a.t a.m):=F21
 subst ew13
 have X27:=X12.trans E19
 obtain⟨R28,eR29⟩: ∃m:Mem,m=Mem.mk M15.blks M15.next M15.hide []:=⟨_,rfl⟩
 have X30:Ext (Mem.mk M0.blks M0.next M0.hide []) R28:=by rw[eR29];exact Ext.aside (X27)
 have lg31:R28.log= []:=by rw[eR29]
 have hM32:MemOk R28:=by rw[eR29];exact MemOk.log hM20
 have g33:R28.get C=some ⟨[i64 ((n:Int)),sli K 0 (n*n*5) (n*n*5+1),.func (.func 47) ⟨[pt B 0]⟩ ⟨[]⟩],73,3,0,true⟩:=by rw[eR29];exact g24
 have g34:R28.get K=some ⟨cur.map i64,3,1,0,true⟩:=by rw[eR29];exact g25
 have ltb1M15:b1<M15.next:=by have h:=Mem.lt_of_get g26;exact h
 have g35:R28.get b1=some ⟨[i64 a.f,i64 a.t,i64 a.m,i64 a.c,i64 a.e,i64 a.a,i64 a.b],42,7,0,true⟩:=by rw[eR29];exact g26
 have F36:=hx_still (R:=(pBE 53)) (M':=R28) F23 (fun id b h=>by rw[eR29];exact h)
 obtain⟨w37,N38,M39,p40,l41,e42,E43,hM44,F45⟩:=call_fc (x:=(y,z)) hM32 con47 (⟨⟨_,_,rfl,hx_out (R:=(pBE 53)) F36,rfl⟩,hz (by intro e;rw[e] at cc0;cases cc0)⟩)
 have g48:=E43.old g33
 have g49:=E43.old g34
 have g50:=E43.old g35
 have ew37:w37=i64 (costE y z):=F45
 subst ew37
 have lg51:M39.log= []:=by rw[←e42];exact lg31
 have X52:=X30.trans E43
 obtain⟨M53,ef54⟩: ∃m:Mem,m=(Mem.mk M39.blks M39.next M39.hide (M39.log++M15.log)):=⟨_,rfl⟩
 have X55:Ext M0 M53:=by rw[ef54];exact Ext.join (X27) (X52)
 have hM56:MemOk M53:=by rw[ef54];exact hM44
 have g57:M53.get C=some ⟨[i64 ((n:Int)),sli K 0 (n*n*5) (n*n*5+1),.func (.func 47) ⟨[pt B 0]⟩ ⟨[]⟩],73,3,0,true⟩:=by rw[ef54];exact g48
 have g58:M53.get K=some ⟨cur.map i64,3,1,0,true⟩:=by rw[ef54];exact g49
 obtain⟨M61,q62,g63,kp64,X65,hM66,nx67⟩:=store_t (o:=0+(plI (n:Int) a.f a.t a.m:Int).toNat*1) (v:=(i64 num)) (new:=splice (cur.map i64) (0+(plI (n:Int) a.f a.t a.m:Int).toNat*1) [i64 num]) X55 nK hM56 dS3 g58 rfl rfl (Nat.zero_le _) hof2 rfl
 replace g63:M61.get K=some ⟨splice (cur.map i64) (0+(plI (n:Int) a.f a.t a.m:Int).toNat*1) [i64 num],3,1,0,true⟩:=g63
 have hraw:oT Try.prog [] 60 Try.f48 q48 [pt C 0,.agg ⟨[i64 a.f,i64 a.t,i64 a.m,i64 a.c,i64 a.e,i64 a.a,i64 a.b]⟩,i64 num] M [ttV 1 (pt b1 0) M2,ttL 9 (i64 a.f),ttL 13 (i64 a.t),ttL 17 (i64 a.m),ttV 19 (i64 (plI (n:Int) a.f a.t a.m)) M15,ttL 29 (sli K 0 (n*n*5) (n*n*5+1)),ttT 33,ttL 35 (i64 z),ttT 44,ttT 46,ttT 48,ttT 50,ttL 51 (.func (.func 47) ⟨[pt B 0]⟩ ⟨[]⟩),ttT 52,ttT 54,ttV 55 (i64 (costE y z)) M39,ttT 56,ttT 58,ttL 59 (i64 a.c),ttT 60,ttT 63,ttF 64,ttL 72 (sli K 0 (n*n*5) (n*n*5+1)),ttT 78,ttS 80 M61] 6=some (.ret,some (.bool true),M61,[.eq (abox Try.prog 42 (.agg ⟨[i64 a.f,i64 a.t,i64 a.m,i64 a.c,i64 a.e,i64 a.a,i64 a.b]⟩) M) (1,.val (pt b1 0),M2),qL 3 b1 0 M2 (i64 a.f),qL 3 b1 1 M2 (i64 a.t),qL 3 b1 2 M2 (i64 a.m),qC 72 [pt C 0,i64 a.f,i64 a.t,i64 a.m] M2 (i64 (plI (n:Int) a.f a.t a.m)) M15,qL 22 C 1 M15 (sli K 0 (n*n*5) (n*n*5+1)),.q (.inb (plI (n:Int) a.f a.t a.m) (n*n*5)) (ansB true),qL 3 K (0+(plI (n:Int) a.f a.t a.m:Int).toNat*1) M15 (i64 z),qT (!(z==(-1:Int))),qT (!(z==(-1:Int))),qT (!(z==(-1:Int))),qT (!(z==(-1:Int))),qL 70 C 2 (Mem.mk M15.blks M15.next M15.hide []) (.func (.func 47) ⟨[pt B 0]⟩ ⟨[]⟩),qT (!(z==(-1:Int))),qT (!(z==(-1:Int))),qC 47 [pt B 0,i64 z] (Mem.mk M15.blks M15.next M15.hide []) (i64 (costE y z)) M39,qT (!(z==(-1:Int))),qT (!(z==(-1:Int))),qL 3 b1 3 (Mem.mk M39.blks M39.next (hides 519 [⟨8,1,M15.next,M39.next⟩,⟨6,1,M15.next,M15.next⟩]++M15.hide) M39.log) (i64 a.c),qT (Nat.blt b1 M15.next),qT (!(z==(-1:Int))),qT (!(z==(-1:Int))),qT (apartN [b1] M39.log),qF (decide ((costE y z)≤a.c)),qL 22 C 1 (Mem.mk M39.blks M39.next M15.hide (M39.log++M15.log)) (sli K 0 (n*n*5) (n*n*5+1)),.q (.inb (plI (n:Int) a.f a.t a.m) (n*n*5)) (ansB true),qS 3 K (0+(plI (n:Int) a.f a.t a.m:Int).toNat*1) (i64 num) (Mem.mk M39.blks M39.next M15.hide (M39.log++M15.log)) M61]):=by kernel_rfl
 have rw0:Mem.mk M15.blks M15.next M15.hide []=R28:=eR29.symm
 have rw2:Mem.mk M39.blks M39.next (hides 519 [⟨8,1,M15.next,M39.next⟩,⟨6,1,M15.next,M15.next⟩]++M15.hide) M39.log=hidx (hides 519 [⟨8,1,M15.next,M39.next⟩,⟨6,1,M15.next,M15.next⟩]) M39:=by rw[(show M15.hide=M39.hide from((X27).hide.trans (X52).hide.symm))];rfl
 have rw3:(Mem.mk M39.blks M39.next M15.hide (M39.log++M15.log))=(Mem.mk M39.blks M39.next M39.hide (M39.log++M15.log)):=by rw[(show M15.hide=M39.hide from((X27).hide.trans (X52).hide.symm))]
 have rw4:(Mem.mk M39.blks M39.next M39.hide (M39.log++M15.log))=M53:=ef54.symm
 try rw[rw0] at hraw
 try rw[rw2] at hraw
 try rw[rw3] at hraw
 try rw[rw4] at hraw
 have hkp: ∀id k,M.get id=some k→id≠K→M61.get id=some k:=fun id k g h_K=>by
  have g:=E6.old g
  have g:=E19.old g
  have g:R28.get id=some k:=by rw[eR29];exact g
  have g:=E43.old g
  have g:M53.get id=some k:=by rw[ef54];exact g
  have g:=((fun id h _=>kp64 id h) id h_K (Mem.lt_of_get g)).trans g
  exact g
 exact⟨M61,Ev.told_tmp noNumP mixedP Try.func48 q48_ok (by kernel_rfl) rK48 (fun B=>sb0 (sbQ 47 Q47 (sbQ 72 Q72 (sbN _)))) (fun _ _=>rfl) hraw (hk (q_eq (by rw[←eb3,←em4];kernel_rfl) Nat.one_ne_zero) (hk (lC dC3 g5 rfl) (hk (lC dC3 g5 rfl) (hk (lC dC3 g5 rfl) (hk (q_call rfl p16 l17 e18) (hk (lC dC22 g24 rfl) (hk (q_inb hi0.1 hi0.2) (hk (q_ld (aload_cell (a:=⟨K,0+(plI (n:Int) a.f a.t a.m:Int).toNat*1,none⟩) dC3 g25 hc1)) (hk (bT (by rw[cc0];rfl)) (hk (bT (by rw[cc0];rfl)) (hk (bT (by rw[cc0];rfl)) (hk (bT (by rw[cc0];rfl)) (hk (lC dC70 g33 rfl) (hk (bT (by rw[cc0];rfl)) (hk (bT (by rw[cc0];rfl)) (hk (q_call rfl p40 l41 e42) (hk (bT (by rw[cc0];rfl)) (hk (bT (by rw[cc0];rfl)) (hk (lC dC3 (hidx_get.2 ⟨hides_low (by simp;omega),g50⟩) rfl) (hk (q_lt ltb1M15) (hk (bT (by rw[cc0];rfl)) (hk (bT (by rw[cc0];rfl)) (hk (q_apart (by rw[lg51];simp<;>omega)) (hk (bF cc1) (hk (lC dC22 g57 rfl) (hk (q_inb hi0.1 hi0.2) (hk (q_st q62) hn))))))))))))))))))))))))))),X65,hM66,g63,hkp⟩
theorem con48E{x:LX (List E4)}{lv:List Value}{M:Mem}(hM:MemOk M)(h:(obL 73 47 costE (pBE 53) (fun y i=>0≤i∧i<(y.length:Int))).A x lv M)(hlo:x.K≤M.next): ∃v M',TO Try.prog 48 (obL 73 47 costE (pBE 53) (fun y i=>0≤i∧i<(y.length:Int))) lv M v M':=by
 have hA:=h
 obtain⟨C,K,B,n,cur,y,a,num⟩:=x
 obtain⟨rfl,gC,gK,hY,dCK,hn,hcl,hf,ht,hm,hok⟩:=h
 simp only at gC gK hY dCK hn hcl hf ht hm hok hlo
 have X0:=Ext.cut hlo
 have nK:(cut K M).next≤K:=Nat.le_refl _
 have hp:=pl_range hf ht hm
 have hrange:n≤60∧(0≤a.f∧a.f<(n:Int))∧(0≤a.t∧a.t<(n:Int))∧(0≤a.m∧a.m<5):=⟨hn,hf,ht,hm⟩
 have hz:curAt cur (atP n a)≠ -1→0≤curAt cur (atP n a)∧curAt cur (atP n a)<(y.length:Int):=fun e=>hok.resolve_left e
 have hin:0≤((plI (n:Int) (a.f) (a.t) (a.m)):Int)∧((plI (n:Int) (a.f) (a.t) (a.m)):Int)<(n*n*5):=by refine⟨hp.1,?_⟩;have:=hp.2;push_cast at this⊢;exact this
 have hk:atP n a<cur.length:=by rw[hcl];unfold atP;omega
 have hat:0+((plI (n:Int) (a.f) (a.t) (a.m)):Int).toNat*1=atP n a:=by unfold atP;omega
 have hcc:(cur.map i64)[0+((plI (n:Int) (a.f) (a.t) (a.m)):Int).toNat*1]?=some (i64 (curAt cur (atP n a))):=by rw[hat,List.getElem?_map,curAt_some hk];rfl
 have hof:0+((plI (n:Int) (a.f) (a.t) (a.m)):Int).toNat*1+1≤(cur.map i64).length:=by rw[hat,List.length_map];omega
 have hspl:splice (cur.map i64) (0+((plI (n:Int) (a.f) (a.t) (a.m)):Int).toNat*1) [i64 num]=(cur.set (atP n a) num).map i64:=by rw[hat,splice_one _ _ _ (by simpa using hk),List.map_set]
 have fin: ∀{bv:Bool} {cu:List Int} {M':Mem},Ev Try.prog [] 48 [pt C 0,.agg ⟨aRow a⟩,i64 num] M (.bool bv) M'→Ext (cut K M) M'→M'.get K=some ⟨cu.map i64,3,1,0,true⟩→(∀id k,M.get id=some k→id≠K→M'.get id=some k)→bv=isLow (costE y) (curAt cur (atP n a)) a.c→cu=lowCur costE ⟨C,K,B,n,cur,y,a,num⟩→ ∃v M',TO Try.prog 48 (obL 73 47 costE (pBE 53) (fun y i=>0≤i∧i<(y.length:Int))) [pt C 0,.agg ⟨aRow a⟩,i64 num] M v M':=
  fun h1 h2 h3 h4 e1 e2=>⟨_,_,h1,⟨C,K,B,n,cur,y,a,num⟩,hA,hlo,h2,h4,by rw[e1],by rw[←e2];exact h3⟩
 cases c0:curAt cur (atP n a)==(-1:Int) with
 |true=>
  obtain⟨M',h1,h2,h3,h4,h5⟩:=w48E0 B C K n cur a num y (curAt cur (atP n a)) hM X0 gC gK nK dCK hY hcl hrange hz c0 hin hcc hof
  rw[hspl] at h4
  exact fin h1 h2 h4 h5 (by simp [isLow,c0]) (by simp [lowCur,isLow,c0])
 |false=>
  cases c1:decide (costE y (curAt cur (atP n a))≤a.c) with
  |true=>
   obtain⟨M',h1,h2,h3,h4,h5⟩:=w48E1 B C K n cur a num y (curAt cur (atP n a)) hM X0 gC gK nK dCK hY hcl hrange hz c0 c1 hin hcc
   have e:isLow (costE y) (curAt cur (atP n a)) a.c=false:=by simp only [isLow,c0,Bool.false_or];exact decide_eq_false (by have:=of_decide_eq_true c1;omega)
   exact fin h1 h2 h4 h5 e.symm (by simp [lowCur,e])
  |false=>
   obtain⟨M',h1,h2,h3,h4,h5⟩:=w48E2 B C K n cur a num y (curAt cur (atP n a)) hM X0 gC gK nK dCK hY hcl hrange hz c0 c1 hin hcc hof
   rw[hspl] at h4
   have e:isLow (costE y) (curAt cur (atP n a)) a.c=true:=by simp only [isLow,c0,Bool.false_or];exact decide_eq_true (by have:=of_decide_eq_false c1;omega)
   exact fin h1 h2 h4 h5 e.symm (by simp [lowCur,e])
theorem nn5{n:Nat}(hn:1≤n∧n≤24):IntKind.wrap .i64 (IntKind.wrap .i64 ((n:Int)*(n:Int))*(5:Int))=((n*n*5:Nat):Int):=by
 have h1:(0:Int)≤(n:Int)*(n:Int):=Int.mul_nonneg (by omega) (by omega)
 have h2:(n:Int)*(n:Int)≤24*24:=Int.mul_le_mul (by omega) (by omega) (by omega) (by omega)
 rw[Go.Am.wrap_small (i:=(n:Int)*(n:Int)) (by omega) (by omega),Go.Am.wrap_small (by omega) (by omega)]
 push_cast;rfl
theorem rK45:Try.f45.results= #[.tmp 4]:=by kernel_rfl
theorem hw45A(n B:Nat){M:Mem}(hM:MemOk M)(hn24:1≤n∧n≤24): ∃v_ M',Ev Try.prog [] 45 [i64 n,.func (.func 46) ⟨[pt B 0]⟩ ⟨[]⟩] M v_ M'∧Ext M M'∧MemOk M'∧ ∃C K,v_=pt C 0∧M.next≤C∧M.next≤K∧C≠K∧M'.get C=some ⟨[i64 n,sli K 0 (n*n*5) (n*n*5+1),.func (.func 46) ⟨[pt B 0]⟩ ⟨[]⟩],73,3,0,true⟩∧M'.get K=some ⟨(noneL n).map i64,3,1,0,true⟩:=by
 obtain⟨b1,M2,eb3,em4,g5,E6,hM7⟩:=new_t hM ⟨[i64 (-1)],3,1,0,true⟩
 have X9:=(Ext.refl M).trans E6
 have ekb10:(IntKind.wrap .i64 ((IntKind.wrap .i64 (((n:Int))*((n:Int))))*(5:Int)))=(((n*n*5):Nat):Int):=nn5 hn24
 obtain⟨w11,N12,M13,p14,l15,e16,E17,hM18,F19⟩:=call_fc (x:=((),n*n*5)) hM7 con44 (⟨⟨_,_,rfl,⟨_,rfl,g5⟩,congrArg i64 ekb10⟩,⟨n,hn24,.inr rfl⟩⟩)
 obtain⟨b10,ew11,nb10,gb10⟩:=F19
 subst ew11
 have nb10:=Nat.le_trans (X9).next nb10
 have X22:=X9.trans E17
 obtain⟨b23,M24,eb25,em26,g27,E28,hM29⟩:=new_t hM18 ⟨[i64 ((n:Int)),sli b10 0 (n*n*5) (n*n*5+1),.func (.func 46) ⟨[pt B 0]⟩ ⟨[]⟩],73,3,0,true⟩
 have nb23:M.next≤b23:=by rw[←eb25];exact X22.next
 have db10b23:b10≠b23:=by have:=Mem.lt_of_get gb10;omega
 have g31:=E28.old gb10
 have X33:=X22.trans E28
 have hraw:oT Try.prog [] 60 Try.f45 q45 [i64 n,.func (.func 46) ⟨[pt B 0]⟩ ⟨[]⟩] M [ttV 3 (sli b1 0 1 2) M2,ttV 13 (sli b10 0 (n*n*5) (n*n*5+1)) M13,ttV 25 (pt b23 0) M24] 4=some (.ret,some (pt b23 0),M24,[.eq (abuildSlice Try.prog 22 1 [(0,(i64 (-1)))] M) (1,.val (sli b1 0 1 2),M2),qC 44 [sli b1 0 1 2,i64 (IntKind.wrap .i64 ((IntKind.wrap .i64 (((n:Int))*((n:Int))))*(5:Int)))] M2 (sli b10 0 (n*n*5) (n*n*5+1)) M13,.eq (abox Try.prog 73 (.agg ⟨[i64 ((n:Int)),sli b10 0 (n*n*5) (n*n*5+1),.func (.func 46) ⟨[pt B 0]⟩ ⟨[]⟩]⟩) M13) (1,.val (pt b23 0),M24)]):=by kernel_rfl
 exact⟨pt b23 0,M24,Ev.told_tmp noNumP mixedP Try.func45 q45_ok (by kernel_rfl) rK45 (fun B=>sb0 (sbQ 44 Q44 (sbN _))) (fun _ _=>rfl) hraw (hk (q_eq (by rw[←eb3,←em4];kernel_rfl) Nat.one_ne_zero) (hk (q_call rfl p14 l15 e16) (hk (q_eq (by rw[←eb25,←em26];kernel_rfl) Nat.one_ne_zero) hn))),X33,hM29,⟨b23,b10,rfl,nb23,nb10,Ne.symm db10b23,g27,by unfold noneL;rw[List.map_replicate];exact g31⟩⟩
theorem hw45E(n B:Nat){M:Mem}(hM:MemOk M)(hn24:1≤n∧n≤24): ∃v_ M',Ev Try.prog [] 45 [i64 n,.func (.func 47) ⟨[pt B 0]⟩ ⟨[]⟩] M v_ M'∧Ext M M'∧MemOk M'∧ ∃C K,v_=pt C 0∧M.next≤C∧M.next≤K∧C≠K∧M'.get C=some ⟨[i64 n,sli K 0 (n*n*5) (n*n*5+1),.func (.func 47) ⟨[pt B 0]⟩ ⟨[]⟩],73,3,0,true⟩∧M'.get K=some ⟨(noneL n).map i64,3,1,0,true⟩:=by
 obtain⟨b1,M2,eb3,em4,g5,E6,hM7⟩:=new_t hM ⟨[i64 (-1)],3,1,0,true⟩
 have X9:=(Ext.refl M).trans E6
 have ekb10:(IntKind.wrap .i64 ((IntKind.wrap .i64 (((n:Int))*((n:Int))))*(5:Int)))=(((n*n*5):Nat):Int):=nn5 hn24
 obtain⟨w11,N12,M13,p14,l15,e16,E17,hM18,F19⟩:=call_fc (x:=((),n*n*5)) hM7 con44 (⟨⟨_,_,rfl,⟨_,rfl,g5⟩,congrArg i64 ekb10⟩,⟨n,hn24,.inr rfl⟩⟩)
 obtain⟨b10,ew11,nb10,gb10⟩:=F19
 subst ew11
 have nb10:=Nat.le_trans (X9).next nb10
 have X22:=X9.trans E17
 obtain⟨b23,M24,eb25,em26,g27,E28,hM29⟩:=new_t hM18 ⟨[i64 ((n:Int)),sli b10 0 (n*n*5) (n*n*5+1),.func (.func 47) ⟨[pt B 0]⟩ ⟨[]⟩],73,3,0,true⟩
 have nb23:M.next≤b23:=by rw[←eb25];exact X22.next
 have db10b23:b10≠b23:=by have:=Mem.lt_of_get gb10;omega
 have g31:=E28.old gb10
 have X33:=X22.trans E28
 have hraw:oT Try.prog [] 60 Try.f45 q45 [i64 n,.func (.func 47) ⟨[pt B 0]⟩ ⟨[]⟩] M [ttV 3 (sli b1 0 1 2) M2,ttV 13 (sli b10 0 (n*n*5) (n*n*5+1)) M13,ttV 25 (pt b23 0) M24] 4=some (.ret,some (pt b23 0),M24,[.eq (abuildSlice Try.prog 22 1 [(0,(i64 (-1)))] M) (1,.val (sli b1 0 1 2),M2),qC 44 [sli b1 0 1 2,i64 (IntKind.wrap .i64 ((IntKind.wrap .i64 (((n:Int))*((n:Int))))*(5:Int)))] M2 (sli b10 0 (n*n*5) (n*n*5+1)) M13,.eq (abox Try.prog 73 (.agg ⟨[i64 ((n:Int)),sli b10 0 (n*n*5) (n*n*5+1),.func (.func 47) ⟨[pt B 0]⟩ ⟨[]⟩]⟩) M13) (1,.val (pt b23 0),M24)]):=by kernel_rfl
 exact⟨pt b23 0,M24,Ev.told_tmp noNumP mixedP Try.func45 q45_ok (by kernel_rfl) rK45 (fun B=>sb0 (sbQ 44 Q44 (sbN _))) (fun _ _=>rfl) hraw (hk (q_eq (by rw[←eb3,←em4];kernel_rfl) Nat.one_ne_zero) (hk (q_call rfl p14 l15 e16) (hk (q_eq (by rw[←eb25,←em26];kernel_rfl) Nat.one_ne_zero) hn))),X33,hM29,⟨b23,b10,rfl,nb23,nb10,Ne.symm db10b23,g27,by unfold noneL;rw[List.map_replicate];exact g31⟩⟩
def pNew(fc:FuncId)(x:Nat×Nat)(nx:Nat)(v:Value)(M:Mem):Prop:= ∃C K,v=pt C 0∧nx≤C∧nx≤K∧C≠K∧M.get C=some ⟨[i64 (x.1:Int),sli K 0 (x.1*x.1*5) (x.1*x.1*5+1),.func (.func fc) ⟨[pt x.2 0]⟩ ⟨[]⟩],73,3,0,true⟩∧M.get K=some ⟨(noneL x.1).map i64,3,1,0,true⟩
instance(fc:FuncId):AQ (pNew fc):=⟨fun hE ⟨C,K,h1,h2,h3,h4,h5,h6⟩=>⟨C,K,h1,h2,h3,h4,hE _ _ h5,hE _ _ h6⟩⟩
def pCl(fc:FuncId)(B:Nat)(v:Value)(_:Mem):Prop:=v= .func (.func fc) ⟨[pt B 0]⟩ ⟨[]⟩
instance(fc:FuncId):AP (pCl fc):=⟨fun h k=>by unfold pCl at h k;rw[h] at k;simpa [pt] using k,fun _ h=>h⟩
abbrev Q45A:=FC (asP (as2 pN (pCl 46)) fun x=>1≤x.1∧x.1≤24) (pNew 46) id
theorem con45A{x:Nat×Nat}{lv:List Value}{M:Mem}(hM:MemOk M)(h:(asP (as2 pN (pCl 46)) fun x=>1≤x.1∧x.1≤24) x lv M): ∃v M',Con Try.prog [] 45 Q45A lv M v M':=by
 refine FC.con h ?_
 obtain⟨⟨g0,g1,rfl,k0,k1⟩,hn⟩:=h
 obtain⟨n,B⟩:=x
 obtain rfl:=k0
 obtain rfl:=k1
 obtain⟨v,M',h1,h2,_,h3⟩:=hw45A n B hM hn
 exact⟨v,M',h1,h2,h3⟩
abbrev Q45E:=FC (asP (as2 pN (pCl 47)) fun x=>1≤x.1∧x.1≤24) (pNew 47) id
theorem con45E{x:Nat×Nat}{lv:List Value}{M:Mem}(hM:MemOk M)(h:(asP (as2 pN (pCl 47)) fun x=>1≤x.1∧x.1≤24) x lv M): ∃v M',Con Try.prog [] 45 Q45E lv M v M':=by
 refine FC.con h ?_
 obtain⟨⟨g0,g1,rfl,k0,k1⟩,hn⟩:=h
 obtain⟨n,B⟩:=x
 obtain rfl:=k0
 obtain rfl:=k1
 obtain⟨v,M',h1,h2,_,h3⟩:=hw45E n B hM hn
 exact⟨v,M',h1,h2,h3⟩
theorem dC51:(Try.prog.underlying 51).map isAggD=some false:=by kernel_rfl
theorem dS51:(Try.prog.info? 51).map (·.size)=some 1:=by kernel_rfl
def pBr(x:Nat×List Int×List Bool)(v:Value)(M:Mem):Prop:= ∃B C G cg c0 c1 c2 c3 c4 c5,v=pt B 0∧M.get B=some ⟨[c0,c1,c2,c3,c4,c5,pt C 0,sli G 0 x.1 cg],53,8,0,true⟩∧pChart 73 (x.1,x.2.1) (pt C 0) M∧M.get G=some ⟨x.2.2.map .bool,4,1,0,true⟩
instance:AP pBr:=⟨fun{x y v M} ⟨B,C,G,cg,c0,c1,c2,c3,c4,c5,h1,h2,h3,h4⟩ ⟨B',C',G',cg',d0,d1,d2,d3,d4,d5,k1,k2,k3,k4⟩=>by
 rw[h1] at k1
 simp only [pt,Value.pointer.injEq,Option.some.injEq,Addr.mk.injEq,and_true] at k1
 subst k1
 rw[h2] at k2
 simp only [Option.some.injEq,ABlk.mk.injEq,List.cons.injEq,Value.slice.injEq,Addr.mk.injEq,and_true,true_and,pt,Value.pointer.injEq] at k2
 obtain⟨_,_,_,_,_,_,rfl,⟨rfl,_⟩⟩:=k2
 rw[h4] at k4
 simp only [Option.some.injEq,ABlk.mk.injEq,and_true] at k4
 have e1:x.2.2=y.2.2:=(List.map_inj_right (fun x y h=>by simpa using h)).1 k4
 have e2:=AP.uniq (R:=pChart 73) h3 k3
 obtain⟨a,b,c⟩:=x;obtain⟨a',b',c'⟩:=y
 simp_all,fun hE ⟨B,C,G,cg,c0,c1,c2,c3,c4,c5,h1,h2,h3,h4⟩=>⟨B,C,G,cg,c0,c1,c2,c3,c4,c5,h1,hE _ _ h2,AP.ext (R:=pChart 73) hE h3,hE _ _ h4⟩⟩
def pLook(fl:FuncId)(_:Unit)(v:Value)(_:Mem):Prop:=v= .func (.func fl) ⟨[]⟩ ⟨[]⟩
instance(fl:FuncId):AP (pLook fl):=⟨fun _ _=>rfl,fun _ h=>h⟩
theorem riOn(bB C K G n ck cg:Nat)(c0 c1 c2 c3 c4 c5 cl:Value)(cur:List Int)(gone:List Bool)(v u m:Nat)(S:Value)(l:List Int){M M0:Mem}(hM:MemOk M)(X0:Ext M0 M)(gbB0:M0.get bB=some ⟨[c0,c1,c2,c3,c4,c5,pt C 0,sli G 0 n cg],53,8,0,true⟩)(gC0:M0.get C=some ⟨[i64 n,sli K 0 cur.length ck,cl],73,3,0,true⟩)(gK0:M0.get K=some ⟨cur.map i64,3,1,0,true⟩)(gG0:M0.get G=some ⟨gone.map Value.bool,4,1,0,true⟩)(hc60:n≤60)(hcl:cur.length=n*n*5)(hv:v<n)(hgl:gone.length=n)(hu:u<n)(hA:AccC 3 1 M0 [bB,C,K,G] l.length (l.map i64) S M)(hl30:l.length<1073741824)(cc0:(decide (((m:Int))<(5:Int)))=true)(cc1:(((curAt cur (lookAt n .out v u m)))==(-1:Int))=true): ∃T1 M',Rd Try.prog [] (q55.loopAt 2) Try.f55.ntmps (fr [(0,(pt bB 0)),(1,(.func (.func 56) ⟨[]⟩ ⟨[]⟩)),(2,(i64 ((v:Int)))),(7,S),(8,(i64 ((u:Int)))),(15,(sli G 0 n cg)),(16,(i64 ((n:Int)))),(17,(i64 ((u:Int)))),(23,(i64 ((m:Int))))]) M .normal T1 M'∧ [0,1,2,7,8,15,16,17,23].map T1.get= [some (pt bB 0),some (.func (.func 56) ⟨[]⟩ ⟨[]⟩),some (i64 ((v:Int))),some S,some (i64 ((u:Int))),some (sli G 0 n cg),some (i64 ((n:Int))),some (i64 ((u:Int))),some (i64 (IntKind.wrap .i64 (((m:Int))+(1:Int))))]∧Ext M0 M'∧MemOk M'∧AccC 3 1 M0 [bB,C,K,G] l.length (l.map i64) S M':=by
 have gbB:=X0.old gbB0
 have gC:=X0.old gC0
 have gK:=X0.old gK0
 obtain⟨w1,N2,M3,p4,l5,e6,E7,hM8,F9⟩:=call_fc (x:=((n,cur),v,u,m)) hM con56 (⟨⟨_,_,_,_,rfl,⟨C,K,_,_,rfl,gC,gK⟩,rfl,rfl,rfl⟩,hc60,hcl,hv,hu,(by have:=of_decide_eq_true cc0;show m<5;omega)⟩)
 have A11:=hA.ext E7
 have ew1:w1=i64 (curAt cur (lookAt n .out v u m)):=F9
 subst ew1
 have X16:=X0.trans E7
 have hraw:oR Try.prog [] 60 Try.f55 (q55.loopAt 2) [(0,(pt bB 0)),(1,(.func (.func 56) ⟨[]⟩ ⟨[]⟩)),(2,(i64 ((v:Int)))),(7,S),(8,(i64 ((u:Int)))),(15,(sli G 0 n cg)),(16,(i64 ((n:Int)))),(17,(i64 ((u:Int)))),(23,(i64 ((m:Int))))] M [ttT 2,ttL 16 (pt C 0),ttV 24 (i64 ((curAt cur (lookAt n .out v u m)))) M3,ttF 31] [0,1,2,7,8,15,16,17,23]=some (.normal,[some (pt bB 0),some (.func (.func 56) ⟨[]⟩ ⟨[]⟩),some (i64 ((v:Int))),some S,some (i64 ((u:Int))),some (sli G 0 n cg),some (i64 ((n:Int))),some (i64 ((u:Int))),some (i64 (IntKind.wrap .i64 (((m:Int))+(1:Int))))],M3,[qT (decide (((m:Int))<(5:Int))),qL 51 bB 6 M (pt C 0),qC 56 [pt C 0,i64 ((v:Int)),i64 ((u:Int)),i64 ((m:Int))] M (i64 ((curAt cur (lookAt n .out v u m)))) M3,qF (!(((curAt cur (lookAt n .out v u m)))==(-1:Int)))]):=by kernel_rfl
 obtain⟨T1,h1,h2⟩:=Rd.told noNumP mixedP (fun B=>sb0 (sbQ 56 Q56 (sbN _))) (fun _ _=>rfl) hraw (hk (bT cc0) (hk (lC dC51 gbB rfl) (hk (q_call rfl p4 l5 e6) (hk (bF (by rw[cc1];rfl)) hn))))
 exact⟨T1,M3,h1,h2,X16,hM8,A11⟩
theorem riOa(bB C K G n ck cg:Nat)(c0 c1 c2 c3 c4 c5 cl:Value)(cur:List Int)(gone:List Bool)(v u m:Nat)(S:Value)(l:List Int){M M0:Mem}(hM:MemOk M)(X0:Ext M0 M)(gbB0:M0.get bB=some ⟨[c0,c1,c2,c3,c4,c5,pt C 0,sli G 0 n cg],53,8,0,true⟩)(gC0:M0.get C=some ⟨[i64 n,sli K 0 cur.length ck,cl],73,3,0,true⟩)(gK0:M0.get K=some ⟨cur.map i64,3,1,0,true⟩)(gG0:M0.get G=some ⟨gone.map Value.bool,4,1,0,true⟩)(hc60:n≤60)(hcl:cur.length=n*n*5)(hv:v<n)(hgl:gone.length=n)(hu:u<n)(hA:AccC 3 1 M0 [bB,C,K,G] l.length (l.map i64) S M)(hl30:l.length<1073741824)(cc0:(decide (((m:Int))<(5:Int)))=true)(cc1:(((curAt cur (lookAt n .out v u m)))==(-1:Int))=false): ∃T1 M' S32,Rd Try.prog [] (q55.loopAt 2) Try.f55.ntmps (fr [(0,(pt bB 0)),(1,(.func (.func 56) ⟨[]⟩ ⟨[]⟩)),(2,(i64 ((v:Int)))),(7,S),(8,(i64 ((u:Int)))),(15,(sli G 0 n cg)),(16,(i64 ((n:Int)))),(17,(i64 ((u:Int)))),(23,(i64 ((m:Int))))]) M .normal T1 M'∧ [0,1,2,7,8,15,16,17,23].map T1.get= [some (pt bB 0),some (.func (.func 56) ⟨[]⟩ ⟨[]⟩),some (i64 ((v:Int))),some S32,some (i64 ((u:Int))),some (sli G 0 n cg),some (i64 ((n:Int))),some (i64 ((u:Int))),some (i64 (IntKind.wrap .i64 (((m:Int))+(1:Int))))]∧Ext M0 M'∧MemOk M'∧AccC 3 1 M0 [bB,C,K,G] (l.length+1) (l.map i64++ [i64 ((curAt cur (lookAt n .out v u m)))]) S32 M':=by
 have gbB:=X0.old gbB0
 have gC:=X0.old gC0
 have gK:=X0.old gK0
 have gG:=X0.old gG0
 obtain⟨w1,N2,M3,p4,l5,e6,E7,hM8,F9⟩:=call_fc (x:=((n,cur),v,u,m)) hM con56 (⟨⟨_,_,_,_,rfl,⟨C,K,_,_,rfl,gC,gK⟩,rfl,rfl,rfl⟩,hc60,hcl,hv,hu,(by have:=of_decide_eq_true cc0;show m<5;omega)⟩)
 have A11:=hA.ext E7
 have g12:=E7.old gbB
 have g13:=E7.old gC
 have g14:=E7.old gK
 have g15:=E7.old gG
 have ew1:w1=i64 (curAt cur (lookAt n .out v u m)):=F9
 subst ew1
 have X16:=X0.trans E7
 obtain⟨b17,M18,eb19,em20,g21,E22,hM23⟩:=new_t hM8 ⟨[i64 ((curAt cur (lookAt n .out v u m)))],3,1,0,true⟩
 have nb17:M0.next≤b17:=by rw[←eb19];exact X16.next
 have dbBb17:bB≠b17:=by have:=Mem.lt_of_get g12;omega
 have dCb17:C≠b17:=by have:=Mem.lt_of_get g13;omega
 have dKb17:K≠b17:=by have:=Mem.lt_of_get g14;omega
 have dGb17:G≠b17:=by have:=Mem.lt_of_get g15;omega
 have A24:=A11.new eb19 E22
 have g25:=E22.old g12
 have g26:=E22.old g13
 have g27:=E22.old g14
 have g28:=E22.old g15
 have X30:=X16.trans E22
 obtain⟨t31,S32,M33,q34,X35,hM36,A37,kb38,ka39⟩:=accc_append (P:=Try.prog) (sT:=22) (xT:=22) (y:=8) (c:=2) A24 X30 hM23 (by intro x hx;simp only [List.mem_cons,List.not_mem_nil,or_false] at hx;rcases hx with rfl|rfl|rfl|rfl|rfl<;>first|exact Mem.lt_of_get g21|exact Mem.lt_of_get g25|exact Mem.lt_of_get g26|exact Mem.lt_of_get g27|exact Mem.lt_of_get g28) (by kernel_rfl) (by kernel_rfl) (by kernel_rfl) (by kernel_rfl) (by decide) (by decide) rfl hl30 g21 (o:=0) (new:= [i64 ((curAt cur (lookAt n .out v u m)))]) rfl rfl rfl
 have hraw:oR Try.prog [] 60 Try.f55 (q55.loopAt 2) [(0,(pt bB 0)),(1,(.func (.func 56) ⟨[]⟩ ⟨[]⟩)),(2,(i64 ((v:Int)))),(7,S),(8,(i64 ((u:Int)))),(15,(sli G 0 n cg)),(16,(i64 ((n:Int)))),(17,(i64 ((u:Int)))),(23,(i64 ((m:Int))))] M [ttT 2,ttL 16 (pt C 0),ttV 24 (i64 ((curAt cur (lookAt n .out v u m)))) M3,ttT 31,ttV 37 (sli b17 0 1 2) M18,.at 39 ((bif t31 then 1 else 2),.val S32,M33)] [0,1,2,7,8,15,16,17,23]=some (.normal,[some (pt bB 0),some (.func (.func 56) ⟨[]⟩ ⟨[]⟩),some (i64 ((v:Int))),some S32,some (i64 ((u:Int))),some (sli G 0 n cg),some (i64 ((n:Int))),some (i64 ((u:Int))),some (i64 (IntKind.wrap .i64 (((m:Int))+(1:Int))))],M33,[qT (decide (((m:Int))<(5:Int))),qL 51 bB 6 M (pt C 0),qC 56 [pt C 0,i64 ((v:Int)),i64 ((u:Int)),i64 ((m:Int))] M (i64 ((curAt cur (lookAt n .out v u m)))) M3,qT (!(((curAt cur (lookAt n .out v u m)))==(-1:Int))),.eq (abuildSlice Try.prog 22 1 [(0,(i64 ((curAt cur (lookAt n .out v u m)))))] M3) (1,.val (sli b17 0 1 2),M18),.q (.append [22,22] S (sli b17 0 1 2) M18) ((bif t31 then 1 else 2),.val S32,M33)]):=by cases t31<;>kernel_rfl
 obtain⟨T1,h1,h2⟩:=Rd.told noNumP mixedP (fun B=>sb0 (sbQ 56 Q56 (sbN _))) (fun _ _=>rfl) hraw (hk (bT cc0) (hk (lC dC51 gbB rfl) (hk (q_call rfl p4 l5 e6) (hk (bT (by rw[cc1];rfl)) (hk (q_eq (by rw[←eb19,←em20];kernel_rfl) Nat.one_ne_zero) (hk (q_app q34 (by cases t31<;>simp)) hn))))))
 exact⟨T1,M33,S32,h1,h2,X35,hM36,A37.less (by intro x hx;simp only [List.mem_cons,List.not_mem_nil,or_false] at hx⊢;omega)⟩
theorem riOx(bB G n cg v u m:Nat)(S:Value){M:Mem}(cc0:(decide (((m:Int))<(5:Int)))=false): ∃T1,Rd Try.prog [] (q55.loopAt 2) Try.f55.ntmps (fr [(0,(pt bB 0)),(1,(.func (.func 56) ⟨[]⟩ ⟨[]⟩)),(2,(i64 ((v:Int)))),(7,S),(8,(i64 ((u:Int)))),(15,(sli G 0 n cg)),(16,(i64 ((n:Int)))),(17,(i64 ((u:Int)))),(23,(i64 ((m:Int))))]) M (.exit 2) T1 M∧ [0,1,2,7,15,16,17].map T1.get= [some (pt bB 0),some (.func (.func 56) ⟨[]⟩ ⟨[]⟩),some (i64 ((v:Int))),some S,some (sli G 0 n cg),some (i64 ((n:Int))),some (i64 ((u:Int)))]:=by
 have hraw:oR Try.prog [] 60 Try.f55 (q55.loopAt 2) [(0,(pt bB 0)),(1,(.func (.func 56) ⟨[]⟩ ⟨[]⟩)),(2,(i64 ((v:Int)))),(7,S),(8,(i64 ((u:Int)))),(15,(sli G 0 n cg)),(16,(i64 ((n:Int)))),(17,(i64 ((u:Int)))),(23,(i64 ((m:Int))))] M [ttF 2] [0,1,2,7,15,16,17]=some ((.exit 2),[some (pt bB 0),some (.func (.func 56) ⟨[]⟩ ⟨[]⟩),some (i64 ((v:Int))),some S,some (sli G 0 n cg),some (i64 ((n:Int))),some (i64 ((u:Int)))],M,[qF (decide (((m:Int))<(5:Int)))]):=by kernel_rfl
 obtain⟨T1,h1,h2⟩:=Rd.told noNumP mixedP (specs_none Try.prog) (fun _ _=>rfl) hraw (hk (bF cc0) hn)
 exact⟨T1,h1,h2⟩
theorem loopIO{bB C K G n ck cg:Nat}{c0 c1 c2 c3 c4 c5 cl:Value}{cur:List Int}{gone:List Bool}{v u:Nat}{S:Value}{l:List Int}{M0 M:Mem}(hM:MemOk M)(X0:Ext M0 M)(gbB0:M0.get bB=some ⟨[c0,c1,c2,c3,c4,c5,pt C 0,sli G 0 n cg],53,8,0,true⟩)(gC0:M0.get C=some ⟨[i64 n,sli K 0 cur.length ck,cl],73,3,0,true⟩)(gK0:M0.get K=some ⟨cur.map i64,3,1,0,true⟩)(gG0:M0.get G=some ⟨gone.map Value.bool,4,1,0,true⟩)(hc60:n≤60)(hcl:cur.length=n*n*5)(hv:v<n)(hgl:gone.length=n)(hu:u<n)(hA:AccC 3 1 M0 [bB,C,K,G] l.length (l.map i64) S M)(hl30:l.length<1000000):
  ∃S' M',LoopR Try.prog [] (q55.loopAt 2) Try.f55.ntmps (fr [(0,pt bB 0),(1,(.func (.func 56) ⟨[]⟩ ⟨[]⟩)),(2,i64 v),(7,S),(8,i64 u),(15,sli G 0 n cg),(16,i64 n),(17,i64 u),(23,i64 ((0:Nat):Int))]) M (.exit 2) (fr [(0,pt bB 0),(1,(.func (.func 56) ⟨[]⟩ ⟨[]⟩)),(2,i64 v),(7,S'),(15,sli G 0 n cg),(16,i64 n),(17,i64 u)]) M'∧Ext M0 M'∧MemOk M'∧AccC 3 1 M0 [bB,C,K,G] (l++rowM n cur .out v u 5).length ((l++rowM n cur .out v u 5).map i64) S' M':=by
 obtain⟨S',M',h1,h2,h3,h4⟩:=LoopR.for (P:=Try.prog) (GL:= []) (b:=q55.loopAt 2) (nt:=Try.f55.ntmps) (id:=2) (σ:=Value) (n:=5) (Inv:=fun i S M1=>Ext M0 M1∧MemOk M1∧AccC 3 1 M0 [bB,C,K,G] (l++rowM n cur .out v u i).length ((l++rowM n cur .out v u i).map i64) S M1)
  (F:=fun i S=> [(0,pt bB 0),(1,(.func (.func 56) ⟨[]⟩ ⟨[]⟩)),(2,i64 v),(7,S),(8,i64 u),(15,sli G 0 n cg),(16,i64 n),(17,i64 u),(23,i64 ((i:Nat):Int))])
  (O:=fun S=> [(0,pt bB 0),(1,(.func (.func 56) ⟨[]⟩ ⟨[]⟩)),(2,i64 v),(7,S),(15,sli G 0 n cg),(16,i64 n),(17,i64 u)])
  (by
   rintro i S M1 hi ⟨X1,hM1,hA1⟩
   have hln:=rowM_len n cur .out v u i
   have hl2:(l++rowM n cur .out v u i).length<1073741824:=by rw[List.length_append];omega
   cases hq:(curAt cur (lookAt n .out v u i))==(-1:Int) with
   |true=>
    obtain⟨T1,M2,h1,h2,h3,h4,h5⟩:=riOn bB C K G n ck cg c0 c1 c2 c3 c4 c5 cl cur gone v u i S (l++rowM n cur .out v u i) hM1 X1 gbB0 gC0 gK0 gG0 hc60 hcl hv hgl hu hA1 hl2 (decide_eq_true (by omega)) hq
    rw[wrap_succ (by omega)] at h2
    refine⟨S,T1,M2,h1,h2,h3,h4,?_⟩
    rw[show rowM n cur .out v u (i+1)=rowM n cur .out v u i by rw[rowM,hq];simp]
    exact h5
   |false=>
    obtain⟨T1,M2,S2,h1,h2,h3,h4,h5⟩:=riOa bB C K G n ck cg c0 c1 c2 c3 c4 c5 cl cur gone v u i S (l++rowM n cur .out v u i) hM1 X1 gbB0 gC0 gK0 gG0 hc60 hcl hv hgl hu hA1 hl2 (decide_eq_true (by omega)) hq
    rw[wrap_succ (by omega)] at h2
    refine⟨S2,T1,M2,h1,h2,h3,h4,?_⟩
    rw[show l++rowM n cur .out v u (i+1)=(l++rowM n cur .out v u i)++ [curAt cur (lookAt n .out v u i)] by rw[rowM,hq];simp,List.length_append (bs:= [_]),List.map_append]
    exact h5)
  (by
   rintro S M1 ⟨X1,hM1,hA1⟩
   exact riOx bB G n cg v u 5 S (M:=M1) (decide_eq_false (by omega)))
  5 0 (by omega) (s:=S) (M:=M) ⟨X0,hM,by simpa [rowM] using hA⟩
 exact⟨S',M',h1,h2,h3,h4⟩
theorem roOg(bB C K G n ck cg:Nat)(c0 c1 c2 c3 c4 c5 cl:Value)(cur:List Int)(gone:List Bool)(v u:Nat)(S:Value)(l:List Int)(gq:Bool){M:Mem}{M0:Mem}(X0:Ext M0 M)(gbB0:M0.get bB=some ⟨[c0,c1,c2,c3,c4,c5,pt C 0,sli G 0 n cg],53,8,0,true⟩)(gC0:M0.get C=some ⟨[i64 n,sli K 0 cur.length ck,cl],73,3,0,true⟩)(gK0:M0.get K=some ⟨cur.map i64,3,1,0,true⟩)(gG0:M0.get G=some ⟨gone.map Value.bool,4,1,0,true⟩)(hc60:n≤60)(hcl:cur.length=n*n*5)(hv:v<n)(hgl:gone.length=n)(hA:AccC 3 1 M0 [bB,C,K,G] l.length (l.map i64) S M)(hl30:l.length<1000000)(cc0:(decide (((u:Int))<((n:Int))))=true)(cc1:(gq)=true)(hc0:((gone.map Value.bool))[0+((u:Int):Int).toNat*1]?=some (.bool gq)): ∃T1,Rd Try.prog [] (q55.loopAt 0) Try.f55.ntmps (fr [(0,(pt bB 0)),(1,(.func (.func 56) ⟨[]⟩ ⟨[]⟩)),(2,(i64 ((v:Int)))),(7,S),(15,(sli G 0 n cg)),(16,(i64 ((n:Int)))),(17,(i64 ((u:Int))))]) M .normal T1 M∧ [0,1,2,7,15,16,17].map T1.get= [some (pt bB 0),some (.func (.func 56) ⟨[]⟩ ⟨[]⟩),some (i64 ((v:Int))),some S,some (sli G 0 n cg),some (i64 ((n:Int))),some (i64 (IntKind.wrap .i64 (((u:Int))+(1:Int))))]:=by
 have gG:=X0.old gG0
 have hraw:oR Try.prog [] 60 Try.f55 (q55.loopAt 0) [(0,(pt bB 0)),(1,(.func (.func 56) ⟨[]⟩ ⟨[]⟩)),(2,(i64 ((v:Int)))),(7,S),(15,(sli G 0 n cg)),(16,(i64 ((n:Int)))),(17,(i64 ((u:Int))))] M [ttT 2,ttT 6,ttL 8 (.bool gq),ttT 15] [0,1,2,7,15,16,17]=some (.normal,[some (pt bB 0),some (.func (.func 56) ⟨[]⟩ ⟨[]⟩),some (i64 ((v:Int))),some S,some (sli G 0 n cg),some (i64 ((n:Int))),some (i64 (IntKind.wrap .i64 (((u:Int))+(1:Int))))],M,[qT (decide (((u:Int))<((n:Int)))),.q (.inb ((u:Int)) n) (ansB true),qL 4 G (0+((u:Int):Int).toNat*1) M (.bool gq),qT gq]):=by kernel_rfl
 obtain⟨T1,h1,h2⟩:=Rd.told noNumP mixedP (specs_none Try.prog) (fun _ _=>rfl) hraw (hk (bT cc0) (hk (q_inb (by omega) (by simp at cc0;omega)) (hk (q_ld (aload_cell (a:=⟨G,0+((u:Int):Int).toNat*1,none⟩) dC4 gG hc0)) (hk (bT cc1) hn))))
 exact⟨T1,h1,h2⟩
theorem roOs(bB C K G n ck cg:Nat)(c0 c1 c2 c3 c4 c5 cl:Value)(cur:List Int)(gone:List Bool)(v u:Nat)(S:Value)(l:List Int)(gq:Bool){M M0:Mem}(hM:MemOk M)(X0:Ext M0 M)(gbB0:M0.get bB=some ⟨[c0,c1,c2,c3,c4,c5,pt C 0,sli G 0 n cg],53,8,0,true⟩)(gC0:M0.get C=some ⟨[i64 n,sli K 0 cur.length ck,cl],73,3,0,true⟩)(gK0:M0.get K=some ⟨cur.map i64,3,1,0,true⟩)(gG0:M0.get G=some ⟨gone.map Value.bool,4,1,0,true⟩)(hc60:n≤60)(hcl:cur.length=n*n*5)(hv:v<n)(hgl:gone.length=n)(hA:AccC 3 1 M0 [bB,C,K,G] l.length (l.map i64) S M)(hl30:l.length<1000000)(cc0:(decide (((u:Int))<((n:Int))))=true)(cc1:(gq)=false)(hc0:((gone.map Value.bool))[0+((u:Int):Int).toNat*1]?=some (.bool gq)): ∃T1 M' S1,Rd Try.prog [] (q55.loopAt 0) Try.f55.ntmps (fr [(0,(pt bB 0)),(1,(.func (.func 56) ⟨[]⟩ ⟨[]⟩)),(2,(i64 ((v:Int)))),(7,S),(15,(sli G 0 n cg)),(16,(i64 ((n:Int)))),(17,(i64 ((u:Int))))]) M .normal T1 M'∧ [0,1,2,7,15,16,17].map T1.get= [some (pt bB 0),some (.func (.func 56) ⟨[]⟩ ⟨[]⟩),some (i64 ((v:Int))),some S1,some (sli G 0 n cg),some (i64 ((n:Int))),some (i64 (IntKind.wrap .i64 (((u:Int))+(1:Int))))]∧Ext M0 M'∧MemOk M'∧AccC 3 1 M0 [bB,C,K,G] (l++rowM n cur .out v u 5).length ((l++rowM n cur .out v u 5).map i64) S1 M':=by
 have gG:=X0.old gG0
 obtain⟨S1,M2,hL3,X4,hM5,A6⟩:=loopIO hM X0 gbB0 gC0 gK0 gG0 hc60 hcl hv hgl (u:=u) (by simp at cc0;omega) hA hl30
 have hraw:oR Try.prog [2] 60 Try.f55 (q55.loopAt 0) [(0,(pt bB 0)),(1,(.func (.func 56) ⟨[]⟩ ⟨[]⟩)),(2,(i64 ((v:Int)))),(7,S),(15,(sli G 0 n cg)),(16,(i64 ((n:Int)))),(17,(i64 ((u:Int))))] M [ttT 2,ttT 6,ttL 8 (.bool gq),ttF 15,.blk 18 [0,1,2,7,8,15,16,17,23] .normal (fr [(0,(pt bB 0)),(1,(.func (.func 56) ⟨[]⟩ ⟨[]⟩)),(2,(i64 ((v:Int)))),(7,S1),(15,(sli G 0 n cg)),(16,(i64 ((n:Int)))),(17,(i64 ((u:Int))))]) M2] [0,1,2,7,15,16,17]=some (.normal,[some (pt bB 0),some (.func (.func 56) ⟨[]⟩ ⟨[]⟩),some (i64 ((v:Int))),some S1,some (sli G 0 n cg),some (i64 ((n:Int))),some (i64 (IntKind.wrap .i64 (((u:Int))+(1:Int))))],M2,[qT (decide (((u:Int))<((n:Int)))),.q (.inb ((u:Int)) n) (ansB true),qL 4 G (0+((u:Int):Int).toNat*1) M (.bool gq),qF gq,.blk 2 (.loop (q55.loopAt 2)) Try.f55.ntmps [0,1,2,7,8,15,16,17,23] [some (pt bB 0),some (.func (.func 56) ⟨[]⟩ ⟨[]⟩),some (i64 ((v:Int))),some S,some (i64 ((u:Int))),some (sli G 0 n cg),some (i64 ((n:Int))),some (i64 ((u:Int))),some (i64 0)] M .normal (fr [(0,(pt bB 0)),(1,(.func (.func 56) ⟨[]⟩ ⟨[]⟩)),(2,(i64 ((v:Int)))),(7,S1),(15,(sli G 0 n cg)),(16,(i64 ((n:Int)))),(17,(i64 ((u:Int))))]) M2]):=by kernel_rfl
 obtain⟨T1,h1,h2⟩:=Rd.told noNumP mixedP (fun B=>sb1 (sbN B) 2 hL3) (fun _ h=>blksF_one h) hraw (hk (bT cc0) (hk (q_inb (by omega) (by simp at cc0;omega)) (hk (q_ld (aload_cell (a:=⟨G,0+((u:Int):Int).toNat*1,none⟩) dC4 gG hc0)) (hk (bF cc1) (hk (q_blk rfl) hn)))))
 exact⟨T1,M2,S1,h1,h2,X4,hM5,A6⟩
theorem roOx(bB C K G n ck cg:Nat)(c0 c1 c2 c3 c4 c5 cl:Value)(cur:List Int)(gone:List Bool)(v u:Nat)(S:Value){M:Mem}{M0:Mem}(X0:Ext M0 M)(gbB0:M0.get bB=some ⟨[c0,c1,c2,c3,c4,c5,pt C 0,sli G 0 n cg],53,8,0,true⟩)(gC0:M0.get C=some ⟨[i64 n,sli K 0 cur.length ck,cl],73,3,0,true⟩)(gK0:M0.get K=some ⟨cur.map i64,3,1,0,true⟩)(gG0:M0.get G=some ⟨gone.map Value.bool,4,1,0,true⟩)(cc0:(decide (((u:Int))<((n:Int))))=false): ∃T1,Rd Try.prog [] (q55.loopAt 0) Try.f55.ntmps (fr [(0,(pt bB 0)),(1,(.func (.func 56) ⟨[]⟩ ⟨[]⟩)),(2,(i64 ((v:Int)))),(7,S),(15,(sli G 0 n cg)),(16,(i64 ((n:Int)))),(17,(i64 ((u:Int))))]) M (.exit 0) T1 M∧ [7].map T1.get= [some S]:=by
 have hraw:oR Try.prog [] 60 Try.f55 (q55.loopAt 0) [(0,(pt bB 0)),(1,(.func (.func 56) ⟨[]⟩ ⟨[]⟩)),(2,(i64 ((v:Int)))),(7,S),(15,(sli G 0 n cg)),(16,(i64 ((n:Int)))),(17,(i64 ((u:Int))))] M [ttF 2] [7]=some ((.exit 0),[some S],M,[qF (decide (((u:Int))<((n:Int))))]):=by kernel_rfl
 obtain⟨T1,h1,h2⟩:=Rd.told noNumP mixedP (specs_none Try.prog) (fun _ _=>rfl) hraw (hk (bF cc0) hn)
 exact⟨T1,h1,h2⟩
theorem riIn(bB C K G n ck cg:Nat)(c0 c1 c2 c3 c4 c5 cl:Value)(cur:List Int)(gone:List Bool)(v u m:Nat)(S:Value)(l:List Int){M M0:Mem}(hM:MemOk M)(X0:Ext M0 M)(gbB0:M0.get bB=some ⟨[c0,c1,c2,c3,c4,c5,pt C 0,sli G 0 n cg],53,8,0,true⟩)(gC0:M0.get C=some ⟨[i64 n,sli K 0 cur.length ck,cl],73,3,0,true⟩)(gK0:M0.get K=some ⟨cur.map i64,3,1,0,true⟩)(gG0:M0.get G=some ⟨gone.map Value.bool,4,1,0,true⟩)(hc60:n≤60)(hcl:cur.length=n*n*5)(hv:v<n)(hgl:gone.length=n)(hu:u<n)(hA:AccC 3 1 M0 [bB,C,K,G] l.length (l.map i64) S M)(hl30:l.length<1073741824)(cc0:(decide (((m:Int))<(5:Int)))=true)(cc1:(((curAt cur (lookAt n .inn v u m)))==(-1:Int))=true): ∃T1 M',Rd Try.prog [] (q55.loopAt 2) Try.f55.ntmps (fr [(0,(pt bB 0)),(1,(.func (.func 57) ⟨[]⟩ ⟨[]⟩)),(2,(i64 ((v:Int)))),(7,S),(8,(i64 ((u:Int)))),(15,(sli G 0 n cg)),(16,(i64 ((n:Int)))),(17,(i64 ((u:Int)))),(23,(i64 ((m:Int))))]) M .normal T1 M'∧ [0,1,2,7,8,15,16,17,23].map T1.get= [some (pt bB 0),some (.func (.func 57) ⟨[]⟩ ⟨[]⟩),some (i64 ((v:Int))),some S,some (i64 ((u:Int))),some (sli G 0 n cg),some (i64 ((n:Int))),some (i64 ((u:Int))),some (i64 (IntKind.wrap .i64 (((m:Int))+(1:Int))))]∧Ext M0 M'∧MemOk M'∧AccC 3 1 M0 [bB,C,K,G] l.length (l.map i64) S M':=by
 have gbB:=X0.old gbB0
 have gC:=X0.old gC0
 have gK:=X0.old gK0
 obtain⟨w1,N2,M3,p4,l5,e6,E7,hM8,F9⟩:=call_fc (x:=((n,cur),v,u,m)) hM con57 (⟨⟨_,_,_,_,rfl,⟨C,K,_,_,rfl,gC,gK⟩,rfl,rfl,rfl⟩,hc60,hcl,hv,hu,(by have:=of_decide_eq_true cc0;show m<5;omega)⟩)
 have A11:=hA.ext E7
 have ew1:w1=i64 (curAt cur (lookAt n .inn v u m)):=F9
 subst ew1
 have X16:=X0.trans E7
 have hraw:oR Try.prog [] 60 Try.f55 (q55.loopAt 2) [(0,(pt bB 0)),(1,(.func (.func 57) ⟨[]⟩ ⟨[]⟩)),(2,(i64 ((v:Int)))),(7,S),(8,(i64 ((u:Int)))),(15,(sli G 0 n cg)),(16,(i64 ((n:Int)))),(17,(i64 ((u:Int)))),(23,(i64 ((m:Int))))] M [ttT 2,ttL 16 (pt C 0),ttV 24 (i64 ((curAt cur (lookAt n .inn v u m)))) M3,ttF 31] [0,1,2,7,8,15,16,17,23]=some (.normal,[some (pt bB 0),some (.func (.func 57) ⟨[]⟩ ⟨[]⟩),some (i64 ((v:Int))),some S,some (i64 ((u:Int))),some (sli G 0 n cg),some (i64 ((n:Int))),some (i64 ((u:Int))),some (i64 (IntKind.wrap .i64 (((m:Int))+(1:Int))))],M3,[qT (decide (((m:Int))<(5:Int))),qL 51 bB 6 M (pt C 0),qC 57 [pt C 0,i64 ((v:Int)),i64 ((u:Int)),i64 ((m:Int))] M (i64 ((curAt cur (lookAt n .inn v u m)))) M3,qF (!(((curAt cur (lookAt n .inn v u m)))==(-1:Int)))]):=by kernel_rfl
 obtain⟨T1,h1,h2⟩:=Rd.told noNumP mixedP (fun B=>sb0 (sbQ 57 Q57 (sbN _))) (fun _ _=>rfl) hraw (hk (bT cc0) (hk (lC dC51 gbB rfl) (hk (q_call rfl p4 l5 e6) (hk (bF (by rw[cc1];rfl)) hn))))
 exact⟨T1,M3,h1,h2,X16,hM8,A11⟩
theorem riIa(bB C K G n ck cg:Nat)(c0 c1 c2 c3 c4 c5 cl:Value)(cur:List Int)(gone:List Bool)(v u m:Nat)(S:Value)(l:List Int){M M0:Mem}(hM:MemOk M)(X0:Ext M0 M)(gbB0:M0.get bB=some ⟨[c0,c1,c2,c3,c4,c5,pt C 0,sli G 0 n cg],53,8,0,true⟩)(gC0:M0.get C=some ⟨[i64 n,sli K 0 cur.length ck,cl],73,3,0,true⟩)(gK0:M0.get K=some ⟨cur.map i64,3,1,0,true⟩)(gG0:M0.get G=some ⟨gone.map Value.bool,4,1,0,true⟩)(hc60:n≤60)(hcl:cur.length=n*n*5)(hv:v<n)(hgl:gone.length=n)(hu:u<n)(hA:AccC 3 1 M0 [bB,C,K,G] l.length (l.map i64) S M)(hl30:l.length<1073741824)(cc0:(decide (((m:Int))<(5:Int)))=true)(cc1:(((curAt cur (lookAt n .inn v u m)))==(-1:Int))=false): ∃T1 M' S32,Rd Try.prog [] (q55.loopAt 2) Try.f55.ntmps (fr [(0,(pt bB 0)),(1,(.func (.func 57) ⟨[]⟩ ⟨[]⟩)),(2,(i64 ((v:Int)))),(7,S),(8,(i64 ((u:Int)))),(15,(sli G 0 n cg)),(16,(i64 ((n:Int)))),(17,(i64 ((u:Int)))),(23,(i64 ((m:Int))))]) M .normal T1 M'∧ [0,1,2,7,8,15,16,17,23].map T1.get= [some (pt bB 0),some (.func (.func 57) ⟨[]⟩ ⟨[]⟩),some (i64 ((v:Int))),some S32,some (i64 ((u:Int))),some (sli G 0 n cg),some (i64 ((n:Int))),some (i64 ((u:Int))),some (i64 (IntKind.wrap .i64 (((m:Int))+(1:Int))))]∧Ext M0 M'∧MemOk M'∧AccC 3 1 M0 [bB,C,K,G] (l.length+1) (l.map i64++ [i64 ((curAt cur (lookAt n .inn v u m)))]) S32 M':=by
 have gbB:=X0.old gbB0
 have gC:=X0.old gC0
 have gK:=X0.old gK0
 have gG:=X0.old gG0
 obtain⟨w1,N2,M3,p4,l5,e6,E7,hM8,F9⟩:=call_fc (x:=((n,cur),v,u,m)) hM con57 (⟨⟨_,_,_,_,rfl,⟨C,K,_,_,rfl,gC,gK⟩,rfl,rfl,rfl⟩,hc60,hcl,hv,hu,(by have:=of_decide_eq_true cc0;show m<5;omega)⟩)
 have A11:=hA.ext E7
 have g12:=E7.old gbB
 have g13:=E7.old gC
 have g14:=E7.old gK
 have g15:=E7.old gG
 have ew1:w1=i64 (curAt cur (lookAt n .inn v u m)):=F9
 subst ew1
 have X16:=X0.trans E7
 obtain⟨b17,M18,eb19,em20,g21,E22,hM23⟩:=new_t hM8 ⟨[i64 ((curAt cur (lookAt n .inn v u m)))],3,1,0,true⟩
 have nb17:M0.next≤b17:=by rw[←eb19];exact X16.next
 have dbBb17:bB≠b17:=by have:=Mem.lt_of_get g12;omega
 have dCb17:C≠b17:=by have:=Mem.lt_of_get g13;omega
 have dKb17:K≠b17:=by have:=Mem.lt_of_get g14;omega
 have dGb17:G≠b17:=by have:=Mem.lt_of_get g15;omega
 have A24:=A11.new eb19 E22
 have g25:=E22.old g12
 have g26:=E22.old g13
 have g27:=E22.old g14
 have g28:=E22.old g15
 have X30:=X16.trans E22
 obtain⟨t31,S32,M33,q34,X35,hM36,A37,kb38,ka39⟩:=accc_append (P:=Try.prog) (sT:=22) (xT:=22) (y:=8) (c:=2) A24 X30 hM23 (by intro x hx;simp only [List.mem_cons,List.not_mem_nil,or_false] at hx;rcases hx with rfl|rfl|rfl|rfl|rfl<;>first|exact Mem.lt_of_get g21|exact Mem.lt_of_get g25|exact Mem.lt_of_get g26|exact Mem.lt_of_get g27|exact Mem.lt_of_get g28) (by kernel_rfl) (by kernel_rfl) (by kernel_rfl) (by kernel_rfl) (by decide) (by decide) rfl hl30 g21 (o:=0) (new:= [i64 ((curAt cur (lookAt n .inn v u m)))]) rfl rfl rfl
 have hraw:oR Try.prog [] 60 Try.f55 (q55.loopAt 2) [(0,(pt bB 0)),(1,(.func (.func 57) ⟨[]⟩ ⟨[]⟩)),(2,(i64 ((v:Int)))),(7,S),(8,(i64 ((u:Int)))),(15,(sli G 0 n cg)),(16,(i64 ((n:Int)))),(17,(i64 ((u:Int)))),(23,(i64 ((m:Int))))] M [ttT 2,ttL 16 (pt C 0),ttV 24 (i64 ((curAt cur (lookAt n .inn v u m)))) M3,ttT 31,ttV 37 (sli b17 0 1 2) M18,.at 39 ((bif t31 then 1 else 2),.val S32,M33)] [0,1,2,7,8,15,16,17,23]=some (.normal,[some (pt bB 0),some (.func (.func 57) ⟨[]⟩ ⟨[]⟩),some (i64 ((v:Int))),some S32,some (i64 ((u:Int))),some (sli G 0 n cg),some (i64 ((n:Int))),some (i64 ((u:Int))),some (i64 (IntKind.wrap .i64 (((m:Int))+(1:Int))))],M33,[qT (decide (((m:Int))<(5:Int))),qL 51 bB 6 M (pt C 0),qC 57 [pt C 0,i64 ((v:Int)),i64 ((u:Int)),i64 ((m:Int))] M (i64 ((curAt cur (lookAt n .inn v u m)))) M3,qT (!(((curAt cur (lookAt n .inn v u m)))==(-1:Int))),.eq (abuildSlice Try.prog 22 1 [(0,(i64 ((curAt cur (lookAt n .inn v u m)))))] M3) (1,.val (sli b17 0 1 2),M18),.q (.append [22,22] S (sli b17 0 1 2) M18) ((bif t31 then 1 else 2),.val S32,M33)]):=by cases t31<;>kernel_rfl
 obtain⟨T1,h1,h2⟩:=Rd.told noNumP mixedP (fun B=>sb0 (sbQ 57 Q57 (sbN _))) (fun _ _=>rfl) hraw (hk (bT cc0) (hk (lC dC51 gbB rfl) (hk (q_call rfl p4 l5 e6) (hk (bT (by rw[cc1];rfl)) (hk (q_eq (by rw[←eb19,←em20];kernel_rfl) Nat.one_ne_zero) (hk (q_app q34 (by cases t31<;>simp)) hn))))))
 exact⟨T1,M33,S32,h1,h2,X35,hM36,A37.less (by intro x hx;simp only [List.mem_cons,List.not_mem_nil,or_false] at hx⊢;omega)⟩
theorem riIx(bB G n cg v u m:Nat)(S:Value){M:Mem}(cc0:(decide (((m:Int))<(5:Int)))=false): ∃T1,Rd Try.prog [] (q55.loopAt 2) Try.f55.ntmps (fr [(0,(pt bB 0)),(1,(.func (.func 57) ⟨[]⟩ ⟨[]⟩)),(2,(i64 ((v:Int)))),(7,S),(8,(i64 ((u:Int)))),(15,(sli G 0 n cg)),(16,(i64 ((n:Int)))),(17,(i64 ((u:Int)))),(23,(i64 ((m:Int))))]) M (.exit 2) T1 M∧ [0,1,2,7,15,16,17].map T1.get= [some (pt bB 0),some (.func (.func 57) ⟨[]⟩ ⟨[]⟩),some (i64 ((v:Int))),some S,some (sli G 0 n cg),some (i64 ((n:Int))),some (i64 ((u:Int)))]:=by
 have hraw:oR Try.prog [] 60 Try.f55 (q55.loopAt 2) [(0,(pt bB 0)),(1,(.func (.func 57) ⟨[]⟩ ⟨[]⟩)),(2,(i64 ((v:Int)))),(7,S),(8,(i64 ((u:Int)))),(15,(sli G 0 n cg)),(16,(i64 ((n:Int)))),(17,(i64 ((u:Int)))),(23,(i64 ((m:Int))))] M [ttF 2] [0,1,2,7,15,16,17]=some ((.exit 2),[some (pt bB 0),some (.func (.func 57) ⟨[]⟩ ⟨[]⟩),some (i64 ((v:Int))),some S,some (sli G 0 n cg),some (i64 ((n:Int))),some (i64 ((u:Int)))],M,[qF (decide (((m:Int))<(5:Int)))]):=by kernel_rfl
 obtain⟨T1,h1,h2⟩:=Rd.told noNumP mixedP (specs_none Try.prog) (fun _ _=>rfl) hraw (hk (bF cc0) hn)
 exact⟨T1,h1,h2⟩
theorem loopII{bB C K G n ck cg:Nat}{c0 c1 c2 c3 c4 c5 cl:Value}{cur:List Int}{gone:List Bool}{v u:Nat}{S:Value}{l:List Int}{M0 M:Mem}(hM:MemOk M)(X0:Ext M0 M)(gbB0:M0.get bB=some ⟨[c0,c1,c2,c3,c4,c5,pt C 0,sli G 0 n cg],53,8,0,true⟩)(gC0:M0.get C=some ⟨[i64 n,sli K 0 cur.length ck,cl],73,3,0,true⟩)(gK0:M0.get K=some ⟨cur.map i64,3,1,0,true⟩)(gG0:M0.get G=some ⟨gone.map Value.bool,4,1,0,true⟩)(hc60:n≤60)(hcl:cur.length=n*n*5)(hv:v<n)(hgl:gone.length=n)(hu:u<n)(hA:AccC 3 1 M0 [bB,C,K,G] l.length (l.map i64) S M)(hl30:l.length<1000000):
  ∃S' M',LoopR Try.prog [] (q55.loopAt 2) Try.f55.ntmps (fr [(0,pt bB 0),(1,(.func (.func 57) ⟨[]⟩ ⟨[]⟩)),(2,i64 v),(7,S),(8,i64 u),(15,sli G 0 n cg),(16,i64 n),(17,i64 u),(23,i64 ((0:Nat):Int))]) M (.exit 2) (fr [(0,pt bB 0),(1,(.func (.func 57) ⟨[]⟩ ⟨[]⟩)),(2,i64 v),(7,S'),(15,sli G 0 n cg),(16,i64 n),(17,i64 u)]) M'∧Ext M0 M'∧MemOk M'∧AccC 3 1 M0 [bB,C,K,G] (l++rowM n cur .inn v u 5).length ((l++rowM n cur .inn v u 5).map i64) S' M':=by
 obtain⟨S',M',h1,h2,h3,h4⟩:=LoopR.for (P:=Try.prog) (GL:= []) (b:=q55.loopAt 2) (nt:=Try.f55.ntmps) (id:=2) (σ:=Value) (n:=5) (Inv:=fun i S M1=>Ext M0 M1∧MemOk M1∧AccC 3 1 M0 [bB,C,K,G] (l++rowM n cur .inn v u i).length ((l++rowM n cur .inn v u i).map i64) S M1)
  (F:=fun i S=> [(0,pt bB 0),(1,(.func (.func 57) ⟨[]⟩ ⟨[]⟩)),(2,i64 v),(7,S),(8,i64 u),(15,sli G 0 n cg),(16,i64 n),(17,i64 u),(23,i64 ((i:Nat):Int))])
  (O:=fun S=> [(0,pt bB 0),(1,(.func (.func 57) ⟨[]⟩ ⟨[]⟩)),(2,i64 v),(7,S),(15,sli G 0 n cg),(16,i64 n),(17,i64 u)])
  (by
   rintro i S M1 hi ⟨X1,hM1,hA1⟩
   have hln:=rowM_len n cur .inn v u i
   have hl2:(l++rowM n cur .inn v u i).length<1073741824:=by rw[List.length_append];omega
   cases hq:(curAt cur (lookAt n .inn v u i))==(-1:Int) with
   |true=>
    obtain⟨T1,M2,h1,h2,h3,h4,h5⟩:=riIn bB C K G n ck cg c0 c1 c2 c3 c4 c5 cl cur gone v u i S (l++rowM n cur .inn v u i) hM1 X1 gbB0 gC0 gK0 gG0 hc60 hcl hv hgl hu hA1 hl2 (decide_eq_true (by omega)) hq
    rw[wrap_succ (by omega)] at h2
    refine⟨S,T1,M2,h1,h2,h3,h4,?_⟩
    rw[show rowM n cur .inn v u (i+1)=rowM n cur .inn v u i by rw[rowM,hq];simp]
    exact h5
   |false=>
    obtain⟨T1,M2,S2,h1,h2,h3,h4,h5⟩:=riIa bB C K G n ck cg c0 c1 c2 c3 c4 c5 cl cur gone v u i S (l++rowM n cur .inn v u i) hM1 X1 gbB0 gC0 gK0 gG0 hc60 hcl hv hgl hu hA1 hl2 (decide_eq_true (by omega)) hq
    rw[wrap_succ (by omega)] at h2
    refine⟨S2,T1,M2,h1,h2,h3,h4,?_⟩
    rw[show l++rowM n cur .inn v u (i+1)=(l++rowM n cur .inn v u i)++ [curAt cur (lookAt n .inn v u i)] by rw[rowM,hq];simp,List.length_append (bs:= [_]),List.map_append]
    exact h5)
  (by
   rintro S M1 ⟨X1,hM1,hA1⟩
   exact riIx bB G n cg v u 5 S (M:=M1) (decide_eq_false (by omega)))
  5 0 (by omega) (s:=S) (M:=M) ⟨X0,hM,by simpa [rowM] using hA⟩
 exact⟨S',M',h1,h2,h3,h4⟩
theorem roIg(bB C K G n ck cg:Nat)(c0 c1 c2 c3 c4 c5 cl:Value)(cur:List Int)(gone:List Bool)(v u:Nat)(S:Value)(l:List Int)(gq:Bool){M:Mem}{M0:Mem}(X0:Ext M0 M)(gbB0:M0.get bB=some ⟨[c0,c1,c2,c3,c4,c5,pt C 0,sli G 0 n cg],53,8,0,true⟩)(gC0:M0.get C=some ⟨[i64 n,sli K 0 cur.length ck,cl],73,3,0,true⟩)(gK0:M0.get K=some ⟨cur.map i64,3,1,0,true⟩)(gG0:M0.get G=some ⟨gone.map Value.bool,4,1,0,true⟩)(hc60:n≤60)(hcl:cur.length=n*n*5)(hv:v<n)(hgl:gone.length=n)(hA:AccC 3 1 M0 [bB,C,K,G] l.length (l.map i64) S M)(hl30:l.length<1000000)(cc0:(decide (((u:Int))<((n:Int))))=true)(cc1:(gq)=true)(hc0:((gone.map Value.bool))[0+((u:Int):Int).toNat*1]?=some (.bool gq)): ∃T1,Rd Try.prog [] (q55.loopAt 0) Try.f55.ntmps (fr [(0,(pt bB 0)),(1,(.func (.func 57) ⟨[]⟩ ⟨[]⟩)),(2,(i64 ((v:Int)))),(7,S),(15,(sli G 0 n cg)),(16,(i64 ((n:Int)))),(17,(i64 ((u:Int))))]) M .normal T1 M∧ [0,1,2,7,15,16,17].map T1.get= [some (pt bB 0),some (.func (.func 57) ⟨[]⟩ ⟨[]⟩),some (i64 ((v:Int))),some S,some (sli G 0 n cg),some (i64 ((n:Int))),some (i64 (IntKind.wrap .i64 (((u:Int))+(1:Int))))]:=by
 have gG:=X0.old gG0
 have hraw:oR Try.prog [] 60 Try.f55 (q55.loopAt 0) [(0,(pt bB 0)),(1,(.func (.func 57) ⟨[]⟩ ⟨[]⟩)),(2,(i64 ((v:Int)))),(7,S),(15,(sli G 0 n cg)),(16,(i64 ((n:Int)))),(17,(i64 ((u:Int))))] M [ttT 2,ttT 6,ttL 8 (.bool gq),ttT 15] [0,1,2,7,15,16,17]=some (.normal,[some (pt bB 0),some (.func (.func 57) ⟨[]⟩ ⟨[]⟩),some (i64 ((v:Int))),some S,some (sli G 0 n cg),some (i64 ((n:Int))),some (i64 (IntKind.wrap .i64 (((u:Int))+(1:Int))))],M,[qT (decide (((u:Int))<((n:Int)))),.q (.inb ((u:Int)) n) (ansB true),qL 4 G (0+((u:Int):Int).toNat*1) M (.bool gq),qT gq]):=by kernel_rfl
 obtain⟨T1,h1,h2⟩:=Rd.told noNumP mixedP (specs_none Try.prog) (fun _ _=>rfl) hraw (hk (bT cc0) (hk (q_inb (by omega) (by simp at cc0;omega)) (hk (q_ld (aload_cell (a:=⟨G,0+((u:Int):Int).toNat*1,none⟩) dC4 gG hc0)) (hk (bT cc1) hn))))
 exact⟨T1,h1,h2⟩
theorem roIs(bB C K G n ck cg:Nat)(c0 c1 c2 c3 c4 c5 cl:Value)(cur:List Int)(gone:List Bool)(v u:Nat)(S:Value)(l:List Int)(gq:Bool){M M0:Mem}(hM:MemOk M)(X0:Ext M0 M)(gbB0:M0.get bB=some ⟨[c0,c1,c2,c3,c4,c5,pt C 0,sli G 0 n cg],53,8,0,true⟩)(gC0:M0.get C=some ⟨[i64 n,sli K 0 cur.length ck,cl],73,3,0,true⟩)(gK0:M0.get K=some ⟨cur.map i64,3,1,0,true⟩)(gG0:M0.get G=some ⟨gone.map Value.bool,4,1,0,true⟩)(hc60:n≤60)(hcl:cur.length=n*n*5)(hv:v<n)(hgl:gone.length=n)(hA:AccC 3 1 M0 [bB,C,K,G] l.length (l.map i64) S M)(hl30:l.length<1000000)(cc0:(decide (((u:Int))<((n:Int))))=true)(cc1:(gq)=false)(hc0:((gone.map Value.bool))[0+((u:Int):Int).toNat*1]?=some (.bool gq)): ∃T1 M' S1,Rd Try.prog [] (q55.loopAt 0) Try.f55.ntmps (fr [(0,(pt bB 0)),(1,(.func (.func 57) ⟨[]⟩ ⟨[]⟩)),(2,(i64 ((v:Int)))),(7,S),(15,(sli G 0 n cg)),(16,(i64 ((n:Int)))),(17,(i64 ((u:Int))))]) M .normal T1 M'∧ [0,1,2,7,15,16,17].map T1.get= [some (pt bB 0),some (.func (.func 57) ⟨[]⟩ ⟨[]⟩),some (i64 ((v:Int))),some S1,some (sli G 0 n cg),some (i64 ((n:Int))),some (i64 (IntKind.wrap .i64 (((u:Int))+(1:Int))))]∧Ext M0 M'∧MemOk M'∧AccC 3 1 M0 [bB,C,K,G] (l++rowM n cur .inn v u 5).length ((l++rowM n cur .inn v u 5).map i64) S1 M':=by
 have gG:=X0.old gG0
 obtain⟨S1,M2,hL3,X4,hM5,A6⟩:=loopII hM X0 gbB0 gC0 gK0 gG0 hc60 hcl hv hgl (u:=u) (by simp at cc0;omega) hA hl30
 have hraw:oR Try.prog [2] 60 Try.f55 (q55.loopAt 0) [(0,(pt bB 0)),(1,(.func (.func 57) ⟨[]⟩ ⟨[]⟩)),(2,(i64 ((v:Int)))),(7,S),(15,(sli G 0 n cg)),(16,(i64 ((n:Int)))),(17,(i64 ((u:Int))))] M [ttT 2,ttT 6,ttL 8 (.bool gq),ttF 15,.blk 18 [0,1,2,7,8,15,16,17,23] .normal (fr [(0,(pt bB 0)),(1,(.func (.func 57) ⟨[]⟩ ⟨[]⟩)),(2,(i64 ((v:Int)))),(7,S1),(15,(sli G 0 n cg)),(16,(i64 ((n:Int)))),(17,(i64 ((u:Int))))]) M2] [0,1,2,7,15,16,17]=some (.normal,[some (pt bB 0),some (.func (.func 57) ⟨[]⟩ ⟨[]⟩),some (i64 ((v:Int))),some S1,some (sli G 0 n cg),some (i64 ((n:Int))),some (i64 (IntKind.wrap .i64 (((u:Int))+(1:Int))))],M2,[qT (decide (((u:Int))<((n:Int)))),.q (.inb ((u:Int)) n) (ansB true),qL 4 G (0+((u:Int):Int).toNat*1) M (.bool gq),qF gq,.blk 2 (.loop (q55.loopAt 2)) Try.f55.ntmps [0,1,2,7,8,15,16,17,23] [some (pt bB 0),some (.func (.func 57) ⟨[]⟩ ⟨[]⟩),some (i64 ((v:Int))),some S,some (i64 ((u:Int))),some (sli G 0 n cg),some (i64 ((n:Int))),some (i64 ((u:Int))),some (i64 0)] M .normal (fr [(0,(pt bB 0)),(1,(.func (.func 57) ⟨[]⟩ ⟨[]⟩)),(2,(i64 ((v:Int)))),(7,S1),(15,(sli G 0 n cg)),(16,(i64 ((n:Int)))),(17,(i64 ((u:Int))))]) M2]):=by kernel_rfl
 obtain⟨T1,h1,h2⟩:=Rd.told noNumP mixedP (fun B=>sb1 (sbN B) 2 hL3) (fun _ h=>blksF_one h) hraw (hk (bT cc0) (hk (q_inb (by omega) (by simp at cc0;omega)) (hk (q_ld (aload_cell (a:=⟨G,0+((u:Int):Int).toNat*1,none⟩) dC4 gG hc0)) (hk (bF cc1) (hk (q_blk rfl) hn)))))
 exact⟨T1,M2,S1,h1,h2,X4,hM5,A6⟩
theorem roIx(bB C K G n ck cg:Nat)(c0 c1 c2 c3 c4 c5 cl:Value)(cur:List Int)(gone:List Bool)(v u:Nat)(S:Value){M:Mem}{M0:Mem}(X0:Ext M0 M)(gbB0:M0.get bB=some ⟨[c0,c1,c2,c3,c4,c5,pt C 0,sli G 0 n cg],53,8,0,true⟩)(gC0:M0.get C=some ⟨[i64 n,sli K 0 cur.length ck,cl],73,3,0,true⟩)(gK0:M0.get K=some ⟨cur.map i64,3,1,0,true⟩)(gG0:M0.get G=some ⟨gone.map Value.bool,4,1,0,true⟩)(cc0:(decide (((u:Int))<((n:Int))))=false): ∃T1,Rd Try.prog [] (q55.loopAt 0) Try.f55.ntmps (fr [(0,(pt bB 0)),(1,(.func (.func 57) ⟨[]⟩ ⟨[]⟩)),(2,(i64 ((v:Int)))),(7,S),(15,(sli G 0 n cg)),(16,(i64 ((n:Int)))),(17,(i64 ((u:Int))))]) M (.exit 0) T1 M∧ [7].map T1.get= [some S]:=by
 have hraw:oR Try.prog [] 60 Try.f55 (q55.loopAt 0) [(0,(pt bB 0)),(1,(.func (.func 57) ⟨[]⟩ ⟨[]⟩)),(2,(i64 ((v:Int)))),(7,S),(15,(sli G 0 n cg)),(16,(i64 ((n:Int)))),(17,(i64 ((u:Int))))] M [ttF 2] [7]=some ((.exit 0),[some S],M,[qF (decide (((u:Int))<((n:Int))))]):=by kernel_rfl
 obtain⟨T1,h1,h2⟩:=Rd.told noNumP mixedP (specs_none Try.prog) (fun _ _=>rfl) hraw (hk (bF cc0) hn)
 exact⟨T1,h1,h2⟩
theorem dC35:(Try.prog.underlying 35).map isAggD=some false:=by kernel_rfl
theorem acc_ints{M M':Mem}{bad:List Nat}{l:List Int}{S:Value}(h:AccC 3 1 M bad l.length (l.map i64) S M')(hl:l.length≤9223372036854775807):pInts l S (hid M.next M'):=by
 rcases h with⟨rfl,h0,_⟩|⟨b,rfl,_,_,h3,h5,h6⟩
 ·rw[List.eq_nil_of_length_eq_zero h0];exact GRowsAt.nil none
 ·exact GRowsAt.of_blk' (hid_of h3 h6) rfl (flat1 l).symm (fun _ _=>rfl) hl
theorem loopOO{bB C K G n ck cg:Nat}{c0 c1 c2 c3 c4 c5 cl:Value}{cur:List Int}{gone:List Bool}{v:Nat}{M0 M:Mem}(hM:MemOk M)(X0:Ext M0 M)(gbB0:M0.get bB=some ⟨[c0,c1,c2,c3,c4,c5,pt C 0,sli G 0 n cg],53,8,0,true⟩)(gC0:M0.get C=some ⟨[i64 n,sli K 0 cur.length ck,cl],73,3,0,true⟩)(gK0:M0.get K=some ⟨cur.map i64,3,1,0,true⟩)(gG0:M0.get G=some ⟨gone.map Value.bool,4,1,0,true⟩)(hc60:n≤60)(hcl:cur.length=n*n*5)(hv:v<n)(hgl:gone.length=n):
  ∃S' M',LoopR Try.prog [] (q55.loopAt 0) Try.f55.ntmps (fr [(0,pt bB 0),(1,(.func (.func 56) ⟨[]⟩ ⟨[]⟩)),(2,i64 v),(7,sln),(15,sli G 0 n cg),(16,i64 n),(17,i64 ((0:Nat):Int))]) M (.exit 0) (fr [(7,S')]) M'∧Ext M0 M'∧MemOk M'∧AccC 3 1 M0 [bB,C,K,G] (rowTo n cur gone .out v n).length ((rowTo n cur gone .out v n).map i64) S' M':=by
 obtain⟨S',M',h1,h2,h3,h4⟩:=LoopR.for (P:=Try.prog) (GL:= []) (b:=q55.loopAt 0) (nt:=Try.f55.ntmps) (id:=0) (σ:=Value) (n:=n) (Inv:=fun i S M1=>Ext M0 M1∧MemOk M1∧AccC 3 1 M0 [bB,C,K,G] (rowTo n cur gone .out v i).length ((rowTo n cur gone .out v i).map i64) S M1)
  (F:=fun i S=> [(0,pt bB 0),(1,(.func (.func 56) ⟨[]⟩ ⟨[]⟩)),(2,i64 v),(7,S),(15,sli G 0 n cg),(16,i64 n),(17,i64 ((i:Nat):Int))])
  (O:=fun S=> [(7,S)])
  (by
   rintro i S M1 hi ⟨X1,hM1,hA1⟩
   have hln:=rowTo_len n cur gone .out v i
   have hgi:gone[i]?=some (goneAt gone i):=by unfold goneAt;rw[List.getElem?_eq_getElem (by omega)];rfl
   have hgc:(gone.map Value.bool)[0+((i:Int):Int).toNat*1]?=some (.bool (goneAt gone i)):=by simp [hgi]
   cases hq:goneAt gone i with
   |true=>
    rw[hq] at hgc
    obtain⟨T1,h1,h2⟩:=roOg bB C K G n ck cg c0 c1 c2 c3 c4 c5 cl cur gone v i S (rowTo n cur gone .out v i) true (M:=M1) X1 gbB0 gC0 gK0 gG0 hc60 hcl hv hgl hA1 (by omega) (decide_eq_true (by omega)) rfl hgc
    rw[wrap_succ (by omega)] at h2
    refine⟨S,T1,M1,h1,h2,X1,hM1,?_⟩
    rw[show rowTo n cur gone .out v (i+1)=rowTo n cur gone .out v i by rw[rowTo,hq];simp]
    exact hA1
   |false=>
    rw[hq] at hgc
    obtain⟨T1,M2,S2,h1,h2,h3,h4,h5⟩:=roOs bB C K G n ck cg c0 c1 c2 c3 c4 c5 cl cur gone v i S (rowTo n cur gone .out v i) false hM1 X1 gbB0 gC0 gK0 gG0 hc60 hcl hv hgl hA1 (by omega) (decide_eq_true (by omega)) rfl hgc
    rw[wrap_succ (by omega)] at h2
    refine⟨S2,T1,M2,h1,h2,h3,h4,?_⟩
    rw[show rowTo n cur gone .out v (i+1)=rowTo n cur gone .out v i++rowM n cur .out v i 5 by rw[rowTo,hq];simp]
    exact h5)
  (by
   rintro S M1 ⟨X1,hM1,hA1⟩
   exact roOx bB C K G n ck cg c0 c1 c2 c3 c4 c5 cl cur gone v n S (M:=M1) X1 gbB0 gC0 gK0 gG0 (decide_eq_false (by omega)))
  n 0 (by omega) (s:=sln) (M:=M) ⟨X0,hM,.inl ⟨rfl,rfl,rfl⟩⟩
 exact⟨S',M',h1,h2,h3,h4⟩
theorem rK55:Try.f55.results= #[.tmp 6]:=by kernel_rfl
theorem hw55O(bB C K G n ck cg:Nat)(c0 c1 c2 c3 c4 c5 cl:Value)(cur:List Int)(gone:List Bool)(v:Nat){M:Mem}(hM:MemOk M)(gbB0:M.get bB=some ⟨[c0,c1,c2,c3,c4,c5,pt C 0,sli G 0 n cg],53,8,0,true⟩)(gC0:M.get C=some ⟨[i64 n,sli K 0 cur.length ck,cl],73,3,0,true⟩)(gK0:M.get K=some ⟨cur.map i64,3,1,0,true⟩)(gG0:M.get G=some ⟨gone.map Value.bool,4,1,0,true⟩)(hc60:n≤60)(hcl:cur.length=n*n*5)(hv:v<n)(hgl:gone.length=n): ∃v_ M',Ev Try.prog [] 55 [pt bB 0,.func (.func 56) ⟨[]⟩ ⟨[]⟩,i64 v] M v_ M'∧Ext M M'∧MemOk M'∧newR pInts (rowH n cur gone .out v) M.next v_ M':=by
 have gbB:=gbB0
 obtain⟨S1,M2,hL3,X4,hM5,A6⟩:=loopOO hM (Ext.refl M) gbB0 gC0 gK0 gG0 hc60 hcl hv hgl
 have hraw:oT Try.prog [0] 60 Try.f55 q55 [pt bB 0,.func (.func 56) ⟨[]⟩ ⟨[]⟩,i64 v] M [ttL 11 (sli G 0 n cg),.blk 16 [0,1,2,7,15,16,17] .normal (fr [(7,S1)]) M2] 6=some (.ret,some S1,M2,[qL 35 bB 7 M (sli G 0 n cg),.blk 0 (.loop (q55.loopAt 0)) Try.f55.ntmps [0,1,2,7,15,16,17] [some (pt bB 0),some (.func (.func 56) ⟨[]⟩ ⟨[]⟩),some (i64 ((v:Int))),some sln,some (sli G 0 n cg),some (i64 ((n:Int))),some (i64 0)] M .normal (fr [(7,S1)]) M2]):=by kernel_rfl
 exact⟨S1,M2,Ev.told_tmp noNumP mixedP Try.func55 q55_ok (by kernel_rfl) rK55 (fun B=>sb1 (sbN B) 0 hL3) (fun _ h=>blksF_one h) hraw (hk (lC dC35 gbB rfl) (hk (q_blk rfl) hn)),X4,hM5,acc_ints A6 (by have h9:(rowH n cur gone .out v).length≤5*n:=rowTo_len n cur gone .out v n;omega)⟩
theorem loopOI{bB C K G n ck cg:Nat}{c0 c1 c2 c3 c4 c5 cl:Value}{cur:List Int}{gone:List Bool}{v:Nat}{M0 M:Mem}(hM:MemOk M)(X0:Ext M0 M)(gbB0:M0.get bB=some ⟨[c0,c1,c2,c3,c4,c5,pt C 0,sli G 0 n cg],53,8,0,true⟩)(gC0:M0.get C=some ⟨[i64 n,sli K 0 cur.length ck,cl],73,3,0,true⟩)(gK0:M0.get K=some ⟨cur.map i64,3,1,0,true⟩)(gG0:M0.get G=some ⟨gone.map Value.bool,4,1,0,true⟩)(hc60:n≤60)(hcl:cur.length=n*n*5)(hv:v<n)(hgl:gone.length=n):
  ∃S' M',LoopR Try.prog [] (q55.loopAt 0) Try.f55.ntmps (fr [(0,pt bB 0),(1,(.func (.func 57) ⟨[]⟩ ⟨[]⟩)),(2,i64 v),(7,sln),(15,sli G 0 n cg),(16,i64 n),(17,i64 ((0:Nat):Int))]) M (.exit 0) (fr [(7,S')]) M'∧Ext M0 M'∧MemOk M'∧AccC 3 1 M0 [bB,C,K,G] (rowTo n cur gone .inn v n).length ((rowTo n cur gone .inn v n).map i64) S' M':=by
 obtain⟨S',M',h1,h2,h3,h4⟩:=LoopR.for (P:=Try.prog) (GL:= []) (b:=q55.loopAt 0) (nt:=Try.f55.ntmps) (id:=0) (σ:=Value) (n:=n) (Inv:=fun i S M1=>Ext M0 M1∧MemOk M1∧AccC 3 1 M0 [bB,C,K,G] (rowTo n cur gone .inn v i).length ((rowTo n cur gone .inn v i).map i64) S M1)
  (F:=fun i S=> [(0,pt bB 0),(1,(.func (.func 57) ⟨[]⟩ ⟨[]⟩)),(2,i64 v),(7,S),(15,sli G 0 n cg),(16,i64 n),(17,i64 ((i:Nat):Int))])
  (O:=fun S=> [(7,S)])
  (by
   rintro i S M1 hi ⟨X1,hM1,hA1⟩
   have hln:=rowTo_len n cur gone .inn v i
   have hgi:gone[i]?=some (goneAt gone i):=by unfold goneAt;rw[List.getElem?_eq_getElem (by omega)];rfl
   have hgc:(gone.map Value.bool)[0+((i:Int):Int).toNat*1]?=some (.bool (goneAt gone i)):=by simp [hgi]
   cases hq:goneAt gone i with
   |true=>
    rw[hq] at hgc
    obtain⟨T1,h1,h2⟩:=roIg bB C K G n ck cg c0 c1 c2 c3 c4 c5 cl cur gone v i S (rowTo n cur gone .inn v i) true (M:=M1) X1 gbB0 gC0 gK0 gG0 hc60 hcl hv hgl hA1 (by omega) (decide_eq_true (by omega)) rfl hgc
    rw[wrap_succ (by omega)] at h2
    refine⟨S,T1,M1,h1,h2,X1,hM1,?_⟩
    rw[show rowTo n cur gone .inn v (i+1)=rowTo n cur gone .inn v i by rw[rowTo,hq];simp]
    exact hA1
   |false=>
    rw[hq] at hgc
    obtain⟨T1,M2,S2,h1,h2,h3,h4,h5⟩:=roIs bB C K G n ck cg c0 c1 c2 c3 c4 c5 cl cur gone v i S (rowTo n cur gone .inn v i) false hM1 X1 gbB0 gC0 gK0 gG0 hc60 hcl hv hgl hA1 (by omega) (decide_eq_true (by omega)) rfl hgc
    rw[wrap_succ (by omega)] at h2
    refine⟨S2,T1,M2,h1,h2,h3,h4,?_⟩
    rw[show rowTo n cur gone .inn v (i+1)=rowTo n cur gone .inn v i++rowM n cur .inn v i 5 by rw[rowTo,hq];simp]
    exact h5)
  (by
   rintro S M1 ⟨X1,hM1,hA1⟩
   exact roIx bB C K G n ck cg c0 c1 c2 c3 c4 c5 cl cur gone v n S (M:=M1) X1 gbB0 gC0 gK0 gG0 (decide_eq_false (by omega)))
  n 0 (by omega) (s:=sln) (M:=M) ⟨X0,hM,.inl ⟨rfl,rfl,rfl⟩⟩
 exact⟨S',M',h1,h2,h3,h4⟩
theorem hw55I(bB C K G n ck cg:Nat)(c0 c1 c2 c3 c4 c5 cl:Value)(cur:List Int)(gone:List Bool)(v:Nat){M:Mem}(hM:MemOk M)(gbB0:M.get bB=some ⟨[c0,c1,c2,c3,c4,c5,pt C 0,sli G 0 n cg],53,8,0,true⟩)(gC0:M.get C=some ⟨[i64 n,sli K 0 cur.length ck,cl],73,3,0,true⟩)(gK0:M.get K=some ⟨cur.map i64,3,1,0,true⟩)(gG0:M.get G=some ⟨gone.map Value.bool,4,1,0,true⟩)(hc60:n≤60)(hcl:cur.length=n*n*5)(hv:v<n)(hgl:gone.length=n): ∃v_ M',Ev Try.prog [] 55 [pt bB 0,.func (.func 57) ⟨[]⟩ ⟨[]⟩,i64 v] M v_ M'∧Ext M M'∧MemOk M'∧newR pInts (rowH n cur gone .inn v) M.next v_ M':=by
 have gbB:=gbB0
 obtain⟨S1,M2,hL3,X4,hM5,A6⟩:=loopOI hM (Ext.refl M) gbB0 gC0 gK0 gG0 hc60 hcl hv hgl
 have hraw:oT Try.prog [0] 60 Try.f55 q55 [pt bB 0,.func (.func 57) ⟨[]⟩ ⟨[]⟩,i64 v] M [ttL 11 (sli G 0 n cg),.blk 16 [0,1,2,7,15,16,17] .normal (fr [(7,S1)]) M2] 6=some (.ret,some S1,M2,[qL 35 bB 7 M (sli G 0 n cg),.blk 0 (.loop (q55.loopAt 0)) Try.f55.ntmps [0,1,2,7,15,16,17] [some (pt bB 0),some (.func (.func 57) ⟨[]⟩ ⟨[]⟩),some (i64 ((v:Int))),some sln,some (sli G 0 n cg),some (i64 ((n:Int))),some (i64 0)] M .normal (fr [(7,S1)]) M2]):=by kernel_rfl
 exact⟨S1,M2,Ev.told_tmp noNumP mixedP Try.func55 q55_ok (by kernel_rfl) rK55 (fun B=>sb1 (sbN B) 0 hL3) (fun _ h=>blksF_one h) hraw (hk (lC dC35 gbB rfl) (hk (q_blk rfl) hn)),X4,hM5,acc_ints A6 (by have h9:(rowH n cur gone .inn v).length≤5*n:=rowTo_len n cur gone .inn v n;omega)⟩
def lookF:Go.Am.Way→FuncId
 | .out=>56
 | .inn=>57
def pLookW(w:Go.Am.Way)(v:Value)(_:Mem):Prop:=v= .func (.func (lookF w)) ⟨[]⟩ ⟨[]⟩
instance:AP pLookW:=⟨fun{x y v _} h k=>by unfold pLookW at h k;rw[h] at k;cases x<;>cases y<;>first|rfl|(simp [lookF] at k),fun _ h=>h⟩
abbrev Q55:=FC (asP (as3 pBr pLookW pN) fun x:(Nat×List Int×List Bool)×Go.Am.Way×Nat=>x.1.1≤60∧x.1.2.1.length=x.1.1*x.1.1*5∧x.2.2<x.1.1∧x.1.2.2.length=x.1.1) (newR pInts) (fun x=>rowH x.1.1 x.1.2.1 x.1.2.2 x.2.1 x.2.2)
theorem con55{x:(Nat×List Int×List Bool)×Go.Am.Way×Nat}{lv:List Value}{M:Mem}(hM:MemOk M)(h:(asP (as3 pBr pLookW pN) fun x:(Nat×List Int×List Bool)×Go.Am.Way×Nat=>x.1.1≤60∧x.1.2.1.length=x.1.1*x.1.1*5∧x.2.2<x.1.1∧x.1.2.2.length=x.1.1) x lv M): ∃v M',Con Try.prog [] 55 Q55 lv M v M':=by
 refine FC.con h ?_
 obtain⟨⟨g0,g1,g2,rfl,k0,k1,k2⟩,h1,h2,h3,h4⟩:=h
 obtain⟨⟨n,cur,gone⟩,w,v⟩:=x
 obtain rfl:=k1
 obtain rfl:=k2
 obtain⟨bB,C,G,cg,c0,c1,c2,c3,c4,c5,rfl,gB,⟨C',K,ck,cl,e,gC,gK⟩,gG⟩:=k0
 simp only [pt,Value.pointer.injEq,Option.some.injEq,Addr.mk.injEq,and_true] at e
 subst e
 cases w with
 |out=>
  obtain⟨v',M',q1,q2,_,q3⟩:=hw55O bB C K G n ck cg c0 c1 c2 c3 c4 c5 cl cur gone v hM gB gC gK gG h1 h2 h3 h4
  exact⟨v',M',q1,q2,q3⟩
 |inn=>
  obtain⟨v',M',q1,q2,_,q3⟩:=hw55I bB C K G n ck cg c0 c1 c2 c3 c4 c5 cl cur gone v hM gB gC gK gG h1 h2 h3 h4
  exact⟨v',M',q1,q2,q3⟩
end Go.Proofs.Ytdaglldahidmbaa
