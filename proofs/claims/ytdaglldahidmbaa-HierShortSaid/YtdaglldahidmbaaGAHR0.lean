/-
  Package hier: each of its laws for every argument; no conditions. The last text states which.
-/
import Derived.Test.YtdaglldahidmbaaGAmMemo
import Derived.Test.YtdaglldahidmbaaGAmTn
import Derived.Test.YtdaglldahidmbaaGVB
import Derived.Test.YtdaglldahidmbaaGVPC
set_option linter.unusedVariables false
set_option linter.unusedSimpArgs false
open Go Go.Am Go.Proofs
namespace Go.Proofs.Ytdaglldahidmbaa
set_option maxRecDepth 100000
def Kr(k:Nat):Rk:=⟨[aC 0 0 1 2,i64 k],[⟨[i64 (-1)],3,1,0,true⟩],aC 1 0 k (k+1),[1],[⟨List.replicate k (i64 (-1)),3,1,0,true⟩]⟩
def cE(k:Nat):Prop:=Ig Try.prog (tR [] []) 300 44 (Kr k)=some ((Kr k).v0,(Kr k).news.map some,true)
theorem rp1:cE 1/\cE (1*1*5):=⟨by unfold cE;kernel_rfl,by unfold cE;kernel_rfl⟩
theorem rp2:cE 2/\cE (2*2*5):=⟨by unfold cE;kernel_rfl,by unfold cE;kernel_rfl⟩
theorem rp3:cE 3/\cE (3*3*5):=⟨by unfold cE;kernel_rfl,by unfold cE;kernel_rfl⟩
theorem rp4:cE 4/\cE (4*4*5):=⟨by unfold cE;kernel_rfl,by unfold cE;kernel_rfl⟩
theorem rp5:cE 5/\cE (5*5*5):=⟨by unfold cE;kernel_rfl,by unfold cE;kernel_rfl⟩
theorem rp6:cE 6/\cE (6*6*5):=⟨by unfold cE;kernel_rfl,by unfold cE;kernel_rfl⟩
theorem rp7:cE 7/\cE (7*7*5):=⟨by unfold cE;kernel_rfl,by unfold cE;kernel_rfl⟩
theorem rp8:cE 8/\cE (8*8*5):=⟨by unfold cE;kernel_rfl,by unfold cE;kernel_rfl⟩
theorem rp9:cE 9/\cE (9*9*5):=⟨by unfold cE;kernel_rfl,by unfold cE;kernel_rfl⟩
theorem rp10:cE 10/\cE (10*10*5):=⟨by unfold cE;kernel_rfl,by unfold cE;kernel_rfl⟩
theorem rp11:cE 11/\cE (11*11*5):=⟨by unfold cE;kernel_rfl,by unfold cE;kernel_rfl⟩
theorem rp12:cE 12/\cE (12*12*5):=⟨by unfold cE;kernel_rfl,by unfold cE;kernel_rfl⟩
theorem rp13:cE 13/\cE (13*13*5):=⟨by unfold cE;kernel_rfl,by unfold cE;kernel_rfl⟩
theorem rp14:cE 14/\cE (14*14*5):=⟨by unfold cE;kernel_rfl,by unfold cE;kernel_rfl⟩
theorem rp15:cE 15/\cE (15*15*5):=⟨by unfold cE;kernel_rfl,by unfold cE;kernel_rfl⟩
theorem rp16:cE 16/\cE (16*16*5):=⟨by unfold cE;kernel_rfl,by unfold cE;kernel_rfl⟩
theorem rp17:cE 17/\cE (17*17*5):=⟨by unfold cE;kernel_rfl,by unfold cE;kernel_rfl⟩
theorem rp18:cE 18/\cE (18*18*5):=⟨by unfold cE;kernel_rfl,by unfold cE;kernel_rfl⟩
theorem rp19:cE 19/\cE (19*19*5):=⟨by unfold cE;kernel_rfl,by unfold cE;kernel_rfl⟩
theorem rp20:cE 20/\cE (20*20*5):=⟨by unfold cE;kernel_rfl,by unfold cE;kernel_rfl⟩
theorem rp21:cE 21/\cE (21*21*5):=⟨by unfold cE;kernel_rfl,by unfold cE;kernel_rfl⟩
theorem rp22:cE 22/\cE (22*22*5):=⟨by unfold cE;kernel_rfl,by unfold cE;kernel_rfl⟩
theorem rp23:cE 23/\cE (23*23*5):=⟨by unfold cE;kernel_rfl,by unfold cE;kernel_rfl⟩
theorem rp24:cE 24/\cE (24*24*5):=⟨by unfold cE;kernel_rfl,by unfold cE;kernel_rfl⟩
theorem Uk(n:Nat)(h:1<=n/\n<=24):cE n/\cE (n*n*5):=by
 have h2:n=1\/n=2\/n=3\/n=4\/n=5\/n=6\/n=7\/n=8\/n=9\/n=10\/n=11\/n=12\/n=13\/n=14\/n=15\/n=16\/n=17\/n=18\/n=19\/n=20\/n=21\/n=22\/n=23\/n=24:=by omega
 rcases h2 with rfl|rfl|rfl|rfl|rfl|rfl|rfl|rfl|rfl|rfl|rfl|rfl|rfl|rfl|rfl|rfl|rfl|rfl|rfl|rfl|rfl|rfl|rfl|rfl
 ·exact rp1
 ·exact rp2
 ·exact rp3
 ·exact rp4
 ·exact rp5
 ·exact rp6
 ·exact rp7
 ·exact rp8
 ·exact rp9
 ·exact rp10
 ·exact rp11
 ·exact rp12
 ·exact rp13
 ·exact rp14
 ·exact rp15
 ·exact rp16
 ·exact rp17
 ·exact rp18
 ·exact rp19
 ·exact rp20
 ·exact rp21
 ·exact rp22
 ·exact rp23
 ·exact rp24
theorem gm{b k:Nat}{M:aA}(hg:M.get b=some ⟨[i64 (-1)],3,1,0,true⟩):Kk (Kr k) [aC b 0 1 2,i64 k] M=some (aC M.next 0 k (k+1),M.alloc ⟨List.replicate k (i64 (-1)),3,1,0,true⟩):=by
 have h1:vD [aC b 0 1 2,i64 k]= [b]:=rfl
 have t1:jM (qY 0 [b]) b=some 0:=by simp [qY,jM,Nat.beq_refl]
 have h2:kE (qY 0 [b]) [aC b 0 1 2,i64 k]=some (Kr k).args0:=by
  simp only [kE,mH,mY,t1]
  rfl
 have h3:Em (Kr k).args0 (Kr k).args0=true:=by
  simp only [Kr,Em,Hc,Bw,i64,Nat.beq_refl]
  simp
 have h4:rM M [b] (Kr k).blks=true:=by
  simp only [Kr,rM,hg]
  rfl
 have t2:jM (lI M.next (Kr k).newsS) 1=some M.next:=by simp [Kr,lI,jM]
 have h5:mH (lI M.next (Kr k).newsS) (Kr k).v0=some (aC M.next 0 k (k+1)):=by
  show mH (lI M.next (Kr k).newsS) (aC 1 0 k (k+1))=_
  simp only [mH,mY,t2]
 unfold Kk
 rw[h1,h2,h4,h5]
 show(bif Go.Am.iJ [b]&&Em (Kr k).args0 (Kr k).args0&&true then _ else none)=_
 rw[h3]
 rfl
def pRep(k nx:Nat)(v:Value)(M:aA):Prop:= ∃b,v=aC b 0 k (k+1)/\nx<=b/\M.get b=some ⟨List.replicate k (i64 (-1)),3,1,0,true⟩
instance:AQ pRep:=⟨fun hE ⟨b,h1,h2,h3⟩=>⟨b,h1,h2,hE _ _ h3⟩⟩
def aAe(_:Unit)(v:Value)(M:aA):Prop:= ∃b,v=aC b 0 1 2/\M.get b=some ⟨[i64 (-1)],3,1,0,true⟩
instance:AP aAe:=⟨fun _ _=>rfl,fun hE ⟨b,h1,h2⟩=>⟨b,h1,hE _ _ h2⟩⟩
theorem kr_st(k:Nat):Ih (Kr k)=true:=by
 have:dD (List.replicate k (i64 (-1)))=true:=by
  induction k with
  |zero=>rfl
  |succ k ih=>rw[List.replicate_succ];simp only [dD,ih,i64];rfl
 unfold Ih Kr
 simp only [yW,this]
 rfl
def Xz(k:Nat):Prop:= ∃n,(1<=n/\n<=24)/\(k=n\/k=n*n*5)
abbrev Q44:=FC (hZ (mU aAe pN) fun x=>Xz x.2) pRep (fun x=>x.2)
theorem Sf{x:Unit×Nat}{lv:List Value}{M:aA}(hM:aB M)(h:(hZ (mU aAe pN) fun x=>Xz x.2) x lv M): ∃v M',lM Try.prog [] 44 Q44 lv M v M':=by
 refine FC.con h ?_
 obtain⟨⟨g0,g1,rfl,k0,k1⟩,n,hn,hk⟩:=h
 obtain⟨_,k⟩:=x
 obtain rfl:=k1
 obtain⟨b,rfl,hg⟩:=k0
 simp only at hk
 have hr:cE k:=by exact hk.elim (fun e=>e▸(Uk _ hn).1) (fun e=>e▸(Uk _ hn).2)
 have hs: ∀B,dC Try.prog [] B 44 (Kk (Kr k)):=fun B=>dC.memo aG aF (Kr k) (aI Try.prog) (kr_st k) hr
 exact⟨_,_,Ev.of_spec hs (gm hg),Ext.alloc M _,M.next,rfl,Nat.le_refl _,mL hM _ rfl⟩
theorem rK72:Try.f72.results= #[.tmp 8]:=by kernel_rfl
theorem w72(C K c n:Nat)(cl:Value)(cur:List Int)(f t m:Int){M:aA}(hM:aB M)(gC:M.get C=some ⟨[i64 n,aC K 0 cur.length c,cl],73,3,0,true⟩)(gK:M.get K=some ⟨cur.map i64,3,1,0,true⟩): ∃v_ M',Ev Try.prog [] 72 [pt C 0,i64 f,i64 t,i64 m] M v_ M'/\Ext M M'/\aB M'/\v_=(i64 (IntKind.wrap .i64 ((IntKind.wrap .i64 ((IntKind.wrap .i64 ((IntKind.wrap .i64 (f*(n:Int)))+t))*(5:Int)))+m))):=by
 exact⟨i64 (IntKind.wrap .i64 ((IntKind.wrap .i64 ((IntKind.wrap .i64 ((IntKind.wrap .i64 (f*(n:Int)))+t))*(5:Int)))+m)),M,Ev.told_tmp (tb:=[]) (n:=60) (F:=[aR 11 (i64 (n:Int))]) aG aF Try.func72 aAE (by kernel_rfl) rK72 (aI Try.prog) (fun _ _=>rfl) (by kernel_rfl) (hk (lO 0 bV gC rfl) hn),Ext.refl M,hM,rfl⟩
abbrev Va:=FC (hZ (Vf (qM 73) pI pI pI) fun x:(Nat×List Int)×Int×Int×Int=>x.1.1<=60/\(0<=x.2.1/\x.2.1<x.1.1)/\(0<=x.2.2.1/\x.2.2.1<x.1.1)/\(0<=x.2.2.2/\x.2.2.2<5)) (plain pI) (fun x=>dM x.1.1 x.2.1 x.2.2.1 x.2.2.2)
theorem Ge{x:(Nat×List Int)×Int×Int×Int}{lv:List Value}{M:aA}(hM:aB M)(h:(hZ (Vf (qM 73) pI pI pI) fun x:(Nat×List Int)×Int×Int×Int=>x.1.1<=60/\(0<=x.2.1/\x.2.1<x.1.1)/\(0<=x.2.2.1/\x.2.2.1<x.1.1)/\(0<=x.2.2.2/\x.2.2.2<5)) x lv M): ∃v M',lM Try.prog [] 72 Va lv M v M':=by
 refine FC.con h ?_
 obtain⟨⟨g0,g1,g2,g3,rfl,k0,k1,k2,k3⟩,a0⟩:=h
 obtain⟨⟨n,cur⟩,f,t,m⟩:=x
 obtain rfl:=k1
 obtain rfl:=k2
 obtain rfl:=k3
 obtain⟨C,K,c,cl,rfl,gC,gK⟩:=k0
 obtain⟨v,M',h1,h2,_,h3⟩:=w72 C K c n cl cur f t m hM gC gK
 exact⟨v,M',h1,h2,by rw[h3,Wl a0.1 a0.2.1 a0.2.2.1 a0.2.2.2];rfl⟩
theorem rK56:Try.f56.results= #[.tmp 8]:=by kernel_rfl
theorem w56(C K c n v u m:Nat)(cl:Value)(cur:List Int)(z:Int){M:aA}(hM:aB M)(gC:M.get C=some ⟨[i64 n,aC K 0 cur.length c,cl],73,3,0,true⟩)(gK:M.get K=some ⟨cur.map i64,3,1,0,true⟩)(b9:n<=60/\(0<=(v:Int)/\(v:Int)<(n:Int))/\(0<=(u:Int)/\(u:Int)<(n:Int))/\(0<=(m:Int)/\(m:Int)<5))(b2:0<=(dM (n:Int) (v:Int) (u:Int) (m:Int):Int)/\(dM (n:Int) (v:Int) (u:Int) (m:Int):Int)<cur.length)(b8:(cur.map i64)[0+(dM (n:Int) (v:Int) (u:Int) (m:Int):Int).toNat*1]?=some (i64 z)): ∃v_ M',Ev Try.prog [] 56 [pt C 0,i64 v,i64 u,i64 m] M v_ M'/\Ext M M'/\aB M'/\v_=i64 z:=by
 obtain⟨R1,a3⟩:=Kz M M []
 have X3:Ext (aA.mk M.blks M.next M.hide []) R1:=by rw[a3];exact Ext.aside (Ext.refl M)
 have c1:R1.log= []:=by rw[a3]
 have b7:=Lg a3 hM
 have a9:=aA.lt_of_get gC
 have g6:=cG a3 gC
 have g7:=cG a3 gK
 obtain⟨w8,N9,a0,c2,c0,b1,b0,a6,b3⟩:=aM (x:=((n,cur),(v:Int),(u:Int),(m:Int))) b7 Ge (⟨⟨_,_,_,_,rfl,⟨C,K,c,cl,rfl,g6,g7⟩,rfl,rfl,rfl⟩,b9⟩)
 have b6:=b0.old g7
 have b5:w8=i64 (dM (n:Int) (v:Int) (u:Int) (m:Int)):=b3
 subst b5
 have a8:a0.log= []:=by rw[<-b1];exact c1
 have a5:=X3.trans b0
 obtain⟨a4,a2⟩: ∃m:aA,m=(aA.mk a0.blks a0.next a0.hide (a0.log++M.log)):=⟨_,rfl⟩
 have b4:Ext M a4:=by rw[a2];exact Ext.join (Ext.refl M) (a5)
 have a7:aB a4:=by rw[a2];exact a6
 have a1:oT Try.prog [] 60 Try.f56 q56 [pt C 0,i64 v,i64 u,i64 m] M [aR 9 (aC K 0 cur.length c),bK 19 (i64 (dM (n:Int) (v:Int) (u:Int) (m:Int))) a0,aP 21,aR 23 (i64 z)] 8=some (.ret,some (i64 z),aA.mk a0.blks a0.next M.hide (a0.log++M.log),[qL 22 C 1 (aA.mk M.blks M.next M.hide []) (aC K 0 cur.length c),qT (Nat.blt C M.next),qC 72 [pt C 0,i64 (v:Int),i64 (u:Int),i64 (m:Int)] (aA.mk M.blks M.next M.hide []) (i64 (dM (n:Int) (v:Int) (u:Int) (m:Int))) a0,.q (.inb (dM (n:Int) (v:Int) (u:Int) (m:Int)) cur.length) (eT true),qL 3 K (0+(dM (n:Int) (v:Int) (u:Int) (m:Int):Int).toNat*1) (aA.mk a0.blks a0.next M.hide a0.log) (i64 z),qT (cY [C] a0.log)]):=by kernel_rfl
 have c3:aA.mk M.blks M.next M.hide []=R1:=a3.symm
 have c4:=pY ((Ext.refl M).hide.trans (a5).hide.symm)
 have c5:=Ew (L:=(a0.log++M.log)) ((Ext.refl M).hide.trans (a5).hide.symm)
 have c6:(aA.mk a0.blks a0.next a0.hide (a0.log++M.log))=a4:=a2.symm
 try rw[c3] at a1
 try rw[c4] at a1
 try rw[c5] at a1
 try rw[c6] at a1
 exact⟨i64 z,a4,Ev.told_tmp aG aF Try.func56 aAz (by kernel_rfl) rK56 (fun B=>lQ (gP 72 Va (gS _))) (fun _ _=>rfl) a1 (hk (lC jU g6 rfl) (hk (mB a9) (hk (aJ rfl c2 c0 b1) (hk (dY b2.1 b2.2) (hk (fF (bG (a:=⟨K,0+(dM (n:Int) (v:Int) (u:Int) (m:Int):Int).toNat*1,none⟩) bV b6 b8)) (hk (eD (by rw[a8];simp<;>omega)) hn)))))),b4,a7,rfl⟩
abbrev Q56:=FC (hZ (Vf (qM 73) pN pN pN) fun x:(Nat×List Int)×Nat×Nat×Nat=>x.1.1<=60/\x.1.2.length=x.1.1*x.1.1*5/\x.2.1<x.1.1/\x.2.2.1<x.1.1/\x.2.2.2<5) (plain pI) (fun x=>aW x.1.2 (bJ x.1.1 .out x.2.1 x.2.2.1 x.2.2.2))
theorem Xk{x:(Nat×List Int)×Nat×Nat×Nat}{lv:List Value}{M:aA}(hM:aB M)(h:(hZ (Vf (qM 73) pN pN pN) fun x:(Nat×List Int)×Nat×Nat×Nat=>x.1.1<=60/\x.1.2.length=x.1.1*x.1.1*5/\x.2.1<x.1.1/\x.2.2.1<x.1.1/\x.2.2.2<5) x lv M): ∃v M',lM Try.prog [] 56 Q56 lv M v M':=by
 refine FC.con h ?_
 obtain⟨⟨g0,g1,g2,g3,rfl,k0,k1,k2,k3⟩,hn,hl,hv,hu,hm⟩:=h
 obtain⟨⟨n,cur⟩,v,u,m⟩:=x
 obtain rfl:=k1
 obtain rfl:=k2
 obtain rfl:=k3
 obtain⟨C,K,c,cl,rfl,gC,gK⟩:=k0
 simp only at hn hl hv hu hm gC gK
 have hk:=uB (w:= .out) hv hu hm
 have hs:=gH (cur:=cur) (by rw[hl];exact hk)
 have e0:dM (n:Int) (v:Int) (u:Int) (m:Int)=((bJ n .out v u m:Nat):Int):=by unfold bJ dM;push_cast;rfl
 obtain⟨v',M',h1,h2,_,h3⟩:=w56 C K c n v u m cl cur (aW cur (bJ n .out v u m)) hM gC gK ⟨hn,by omega,by omega,by omega⟩ (by rw[e0];omega) (by rw[e0];simp [hs])
 exact⟨v',M',h1,h2,h3⟩
theorem rK57:Try.f57.results= #[.tmp 8]:=by kernel_rfl
theorem w57(C K c n v u m:Nat)(cl:Value)(cur:List Int)(z:Int){M:aA}(hM:aB M)(gC:M.get C=some ⟨[i64 n,aC K 0 cur.length c,cl],73,3,0,true⟩)(gK:M.get K=some ⟨cur.map i64,3,1,0,true⟩)(b9:n<=60/\(0<=(u:Int)/\(u:Int)<(n:Int))/\(0<=(v:Int)/\(v:Int)<(n:Int))/\(0<=(m:Int)/\(m:Int)<5))(b2:0<=(dM (n:Int) (u:Int) (v:Int) (m:Int):Int)/\(dM (n:Int) (u:Int) (v:Int) (m:Int):Int)<cur.length)(b8:(cur.map i64)[0+(dM (n:Int) (u:Int) (v:Int) (m:Int):Int).toNat*1]?=some (i64 z)): ∃v_ M',Ev Try.prog [] 57 [pt C 0,i64 v,i64 u,i64 m] M v_ M'/\Ext M M'/\aB M'/\v_=i64 z:=by
 obtain⟨R1,a3⟩:=Kz M M []
 have X3:Ext (aA.mk M.blks M.next M.hide []) R1:=by rw[a3];exact Ext.aside (Ext.refl M)
 have c1:R1.log= []:=by rw[a3]
 have b7:=Lg a3 hM
 have a9:=aA.lt_of_get gC
 have g6:=cG a3 gC
 have g7:=cG a3 gK
 obtain⟨w8,N9,a0,c2,c0,b1,b0,a6,b3⟩:=aM (x:=((n,cur),(u:Int),(v:Int),(m:Int))) b7 Ge (⟨⟨_,_,_,_,rfl,⟨C,K,c,cl,rfl,g6,g7⟩,rfl,rfl,rfl⟩,b9⟩)
 have b6:=b0.old g7
 have b5:w8=i64 (dM (n:Int) (u:Int) (v:Int) (m:Int)):=b3
 subst b5
 have a8:a0.log= []:=by rw[<-b1];exact c1
 have a5:=X3.trans b0
 obtain⟨a4,a2⟩: ∃m:aA,m=(aA.mk a0.blks a0.next a0.hide (a0.log++M.log)):=⟨_,rfl⟩
 have b4:Ext M a4:=by rw[a2];exact Ext.join (Ext.refl M) (a5)
 have a7:aB a4:=by rw[a2];exact a6
 have a1:oT Try.prog [] 60 Try.f57 q57 [pt C 0,i64 v,i64 u,i64 m] M [aR 9 (aC K 0 cur.length c),bK 19 (i64 (dM (n:Int) (u:Int) (v:Int) (m:Int))) a0,aP 21,aR 23 (i64 z)] 8=some (.ret,some (i64 z),aA.mk a0.blks a0.next M.hide (a0.log++M.log),[qL 22 C 1 (aA.mk M.blks M.next M.hide []) (aC K 0 cur.length c),qT (Nat.blt C M.next),qC 72 [pt C 0,i64 (u:Int),i64 (v:Int),i64 (m:Int)] (aA.mk M.blks M.next M.hide []) (i64 (dM (n:Int) (u:Int) (v:Int) (m:Int))) a0,.q (.inb (dM (n:Int) (u:Int) (v:Int) (m:Int)) cur.length) (eT true),qL 3 K (0+(dM (n:Int) (u:Int) (v:Int) (m:Int):Int).toNat*1) (aA.mk a0.blks a0.next M.hide a0.log) (i64 z),qT (cY [C] a0.log)]):=by kernel_rfl
 have c3:aA.mk M.blks M.next M.hide []=R1:=a3.symm
 have c4:=pY ((Ext.refl M).hide.trans (a5).hide.symm)
 have c5:=Ew (L:=(a0.log++M.log)) ((Ext.refl M).hide.trans (a5).hide.symm)
 have c6:(aA.mk a0.blks a0.next a0.hide (a0.log++M.log))=a4:=a2.symm
 try rw[c3] at a1
 try rw[c4] at a1
 try rw[c5] at a1
 try rw[c6] at a1
 exact⟨i64 z,a4,Ev.told_tmp aG aF Try.func57 aAA (by kernel_rfl) rK57 (fun B=>lQ (gP 72 Va (gS _))) (fun _ _=>rfl) a1 (hk (lC jU g6 rfl) (hk (mB a9) (hk (aJ rfl c2 c0 b1) (hk (dY b2.1 b2.2) (hk (fF (bG (a:=⟨K,0+(dM (n:Int) (u:Int) (v:Int) (m:Int):Int).toNat*1,none⟩) bV b6 b8)) (hk (eD (by rw[a8];simp<;>omega)) hn)))))),b4,a7,rfl⟩
abbrev Q57:=FC (hZ (Vf (qM 73) pN pN pN) fun x:(Nat×List Int)×Nat×Nat×Nat=>x.1.1<=60/\x.1.2.length=x.1.1*x.1.1*5/\x.2.1<x.1.1/\x.2.2.1<x.1.1/\x.2.2.2<5) (plain pI) (fun x=>aW x.1.2 (bJ x.1.1 .inn x.2.1 x.2.2.1 x.2.2.2))
theorem Xl{x:(Nat×List Int)×Nat×Nat×Nat}{lv:List Value}{M:aA}(hM:aB M)(h:(hZ (Vf (qM 73) pN pN pN) fun x:(Nat×List Int)×Nat×Nat×Nat=>x.1.1<=60/\x.1.2.length=x.1.1*x.1.1*5/\x.2.1<x.1.1/\x.2.2.1<x.1.1/\x.2.2.2<5) x lv M): ∃v M',lM Try.prog [] 57 Q57 lv M v M':=by
 refine FC.con h ?_
 obtain⟨⟨g0,g1,g2,g3,rfl,k0,k1,k2,k3⟩,hn,hl,hv,hu,hm⟩:=h
 obtain⟨⟨n,cur⟩,v,u,m⟩:=x
 obtain rfl:=k1
 obtain rfl:=k2
 obtain rfl:=k3
 obtain⟨C,K,c,cl,rfl,gC,gK⟩:=k0
 simp only at hn hl hv hu hm gC gK
 have hk:=uB (w:= .inn) hv hu hm
 have hs:=gH (cur:=cur) (by rw[hl];exact hk)
 have e0:dM (n:Int) (u:Int) (v:Int) (m:Int)=((bJ n .inn v u m:Nat):Int):=by unfold bJ dM;push_cast;rfl
 obtain⟨v',M',h1,h2,_,h3⟩:=w57 C K c n v u m cl cur (aW cur (bJ n .inn v u m)) hM gC gK ⟨hn,by omega,by omega,by omega⟩ (by rw[e0];omega) (by rw[e0];simp [hs])
 exact⟨v',M',h1,h2,h3⟩
theorem kK:(Try.prog.underlying 28).map dR=some false:=by kernel_rfl
theorem dS28:(Try.prog.info? 28).map (·.size)=some 1:=by kernel_rfl
theorem uM:(Try.prog.underlying 42).map dR=some true:=by kernel_rfl
theorem lP:(Try.prog.info? 42).map (·.size)=some 7:=by kernel_rfl
theorem rK46:Try.f46.results= #[.tmp 4]:=by kernel_rfl
theorem w46(B ab ao ca:Nat)(c0 c1 c2 c4 c5 c6 c7:Value)(arcs:List A7)(i z:Int){M:aA}(hM:aB M)(gB:M.get B=some ⟨[c0,c1,c2,aC ab ao arcs.length ca,c4,c5,c6,c7],53,8,0,true⟩)(a1:0<=(i:Int)/\(i:Int)<arcs.length)(a0:bI Try.prog 3 ⟨ab,ao+(i:Int).toNat*7+3,none⟩ M=some (i64 z)): ∃v_ M',Ev Try.prog [] 46 [pt B 0,i64 i] M v_ M'/\Ext M M'/\aB M'/\v_=i64 z:=by
 exact⟨i64 z,M,Ev.told_tmp (tb:=[]) (n:=60) (F:=[aR 11 (aC ab ao arcs.length ca),aP 15,aR 19 (i64 z)]) aG aF Try.func46 aAr (by kernel_rfl) rK46 (aI Try.prog) (fun _ _=>rfl) (by kernel_rfl) (hk (lO 3 kK gB rfl) (hk (qI i arcs.length a1.1 a1.2) (hk (lD (a0)) hn))),Ext.refl M,hM,rfl⟩
abbrev Q46:=FC (hZ (mU (Ml 53) pI) fun x:List A7×Int=>0<=x.2/\x.2<(x.1.length:Int)) (plain pI) (fun x=>cS x.1 x.2)
theorem con46{x:List A7×Int}{lv:List Value}{M:aA}(hM:aB M)(h:(hZ (mU (Ml 53) pI) fun x:List A7×Int=>0<=x.2/\x.2<(x.1.length:Int)) x lv M): ∃v M',lM Try.prog [] 46 Q46 lv M v M':=by
 refine FC.con h ?_
 obtain⟨⟨g0,g1,rfl,k0,k1⟩,a0⟩:=h
 obtain⟨arcs,i⟩:=x
 obtain rfl:=k1
 obtain⟨B,c0,c1,c2,c3,c4,c5,c6,c7,rfl,gB,hs⟩:=k0
 simp only at a0 hs
 obtain⟨a,c,rfl⟩:=aH.form hs
 obtain⟨b,o,rfl,_⟩:=cF hs (by omega)
 have ht:arcs[i.toNat]?=some arcs[i.toNat]:=List.getElem?_eq_getElem (by omega)
 have hl:=rQ (P:=Try.prog) (ty:=3) (j:=3) (v:=i64 arcs[i.toNat].c) hs ht rfl bV
 obtain⟨v,M',h1,h2,_,h3⟩:=w46 B b o c c0 c1 c2 c4 c5 c6 c7 arcs i arcs[i.toNat].c hM gB a0 hl
 exact⟨v,M',h1,h2,by rw[h3,Nj ht];rfl⟩
theorem rK47:Try.f47.results= #[.tmp 4]:=by kernel_rfl
theorem w47(B eb eo ce:Nat)(c0 c2 c3 c4 c5 c6 c7:Value)(es:List E4)(i z:Int){M:aA}(hM:aB M)(gB:M.get B=some ⟨[c0,aC eb eo es.length ce,c2,c3,c4,c5,c6,c7],53,8,0,true⟩)(a1:0<=(i:Int)/\(i:Int)<es.length)(a0:bI Try.prog 3 ⟨eb,eo+(i:Int).toNat*4+3,none⟩ M=some (i64 z)): ∃v_ M',Ev Try.prog [] 47 [pt B 0,i64 i] M v_ M'/\Ext M M'/\aB M'/\v_=i64 z:=by
 exact⟨i64 z,M,Ev.told_tmp (tb:=[]) (n:=60) (F:=[aR 13 (aC eb eo es.length ce),aP 17,aR 21 (i64 z)]) aG aF Try.func47 aAs (by kernel_rfl) rK47 (aI Try.prog) (fun _ _=>rfl) (by kernel_rfl) (hk (lO 1 nN gB rfl) (hk (qI i es.length a1.1 a1.2) (hk (lD (a0)) hn))),Ext.refl M,hM,rfl⟩
abbrev Q47:=FC (hZ (mU (Ip 53) pI) fun x:List E4×Int=>0<=x.2/\x.2<(x.1.length:Int)) (plain pI) (fun x=>eB x.1 x.2)
theorem con47{x:List E4×Int}{lv:List Value}{M:aA}(hM:aB M)(h:(hZ (mU (Ip 53) pI) fun x:List E4×Int=>0<=x.2/\x.2<(x.1.length:Int)) x lv M): ∃v M',lM Try.prog [] 47 Q47 lv M v M':=by
 refine FC.con h ?_
 obtain⟨⟨g0,g1,rfl,k0,k1⟩,a0⟩:=h
 obtain⟨es,i⟩:=x
 obtain rfl:=k1
 obtain⟨B,c0,c1,c2,c3,c4,c5,c6,c7,rfl,gB,hs⟩:=k0
 simp only at a0 hs
 obtain⟨a,c,rfl⟩:=aH.form hs
 obtain⟨b,o,rfl,_⟩:=cF hs (by omega)
 have ht:es[i.toNat]?=some es[i.toNat]:=List.getElem?_eq_getElem (by omega)
 have hl:=rQ (P:=Try.prog) (ty:=3) (j:=3) (v:=i64 es[i.toNat].c) hs ht rfl bV
 obtain⟨v,M',h1,h2,_,h3⟩:=w47 B b o c c0 c2 c3 c4 c5 c6 c7 es i es[i.toNat].c hM gB a0 hl
 exact⟨v,M',h1,h2,by rw[h3,Nk ht];rfl⟩
theorem rK49:Try.f49.results= #[.cell 4 42]:=by kernel_rfl
theorem w49(eb eo ce:Nat)(es:List E4)(e:E4)(i:Int){M:aA}(hM:aB M)(b7:0<=(i:Int)/\(i:Int)<es.length)(b2:bI Try.prog 37 ⟨eb,eo+(i:Int).toNat*4,none⟩ M=some (.agg ⟨(cC e)⟩)): ∃v_ M',Ev Try.prog [] 49 [aC eb eo es.length ce,i64 i] M v_ M'/\Ext M M'/\aB M'/\v_= .agg ⟨bL (iI i e)⟩:=by
 obtain⟨b1,M2,b6,c1,g5,E6,c6⟩:=bE hM ⟨[i64 0,i64 0,i64 0,i64 0,i64 0,i64 0,i64 0],42,7,0,true⟩
 have c8:M.next<=b1:=by rw[<-b6];exact(Ext.refl M).next
 have X9:=(Ext.refl M).trans E6
 obtain⟨a6,a3,a1,a7,c2,b5,a8⟩:=bE c6 ⟨[i64 0,i64 0,i64 0,i64 0],37,4,0,true⟩
 have b4:=mG a1 X9
 have a0:=fL g5 a1
 have c3:=b5.old g5
 have b8:=X9.trans b5
 obtain⟨a4,Uw,a2,b3,b9,a9,c9⟩:=aZ (o:=0) (v:=(.agg ⟨(cC e)⟩)) (new:= (cC e)) b8 b4 a8 oO c2 rfl rfl (Nat.zero_le _) (Nat.le_of_ble_eq_true rfl) rfl
 have c4:=(b3 _ a0).trans c3
 obtain⟨a5,q29,c5,c7,c0,b0,d0⟩:=aZ (o:=0) (v:=(.agg ⟨[i64 e.f,i64 e.t,i64 e.m,i64 e.c,i64 i,i64 0,i64 0]⟩)) (new:= [i64 e.f,i64 e.t,i64 e.m,i64 e.c,i64 i,i64 0,i64 0]) b9 c8 a9 lP c4 rfl rfl (Nat.zero_le _) (Nat.le_of_ble_eq_true rfl) rfl
 exact⟨.agg ⟨[i64 e.f,i64 e.t,i64 e.m,i64 e.c,i64 i,i64 0,i64 0]⟩,a5,Ev.told_cell (tb:=[]) (n:=60) (F:=[bK 1 (pt b1 0) M2,aP 7,aR 9 (.agg ⟨(cC e)⟩),bK 11 (pt a6 0) a3,jJ 13 a4,aR 17 (i64 e.f),aR 21 (i64 e.t),aR 25 (i64 e.m),aR 29 (i64 e.c),jJ 35 a5]) aG aF Try.func49 aAu (by kernel_rfl) rK49 (aI Try.prog) (fun _ _=>rfl) (by kernel_rfl) (mM (a:=⟨b1,0,none⟩) uM lP c5 rfl) (hq (.eq (cN Try.prog 42 M) (1,.val (pt b1 0),M2)) (bP (by rw[<-b6,<-c1];kernel_rfl) Nat.one_ne_zero) (hk (qI i es.length b7.1 b7.2) (hk (lD (aS X9 b2)) (hq (.eq (cN Try.prog 37 M2) (1,.val (pt a6 0),a3)) (bP (by rw[<-a1,<-a7];kernel_rfl) Nat.one_ne_zero) (hq (qS 37 a6 0 (.agg ⟨(cC e)⟩) a3 a4) (dA Uw) (hk (lO 0 bV a2 rfl) (hk (lO 1 bV a2 rfl) (hk (lO 2 bV a2 rfl) (hk (lO 3 bV a2 rfl) (hq (qS 42 b1 0 (.agg ⟨[i64 e.f,i64 e.t,i64 e.m,i64 e.c,i64 i,i64 0,i64 0]⟩) a4 a5) (dA q29) hn)))))))))),c0,b0,rfl⟩
abbrev Q49:=FC (hZ (mU aU pI) fun x:List E4×Int=>0<=x.2/\x.2<(x.1.length:Int)) (plain Fl) (fun x=>iI x.2 (Xs x.1 x.2))
theorem Xh{x:List E4×Int}{lv:List Value}{M:aA}(hM:aB M)(h:(hZ (mU aU pI) fun x:List E4×Int=>0<=x.2/\x.2<(x.1.length:Int)) x lv M): ∃v M',lM Try.prog [] 49 Q49 lv M v M':=by
 refine FC.con h ?_
 obtain⟨⟨g0,g1,rfl,hs,k1⟩,a0⟩:=h
 obtain⟨es,i⟩:=x
 obtain rfl:=k1
 simp only at a0 hs
 obtain⟨a,c,rfl⟩:=aH.form hs
 obtain⟨b,o,rfl,_⟩:=cF hs (by omega)
 have ht:es[i.toNat]?=some es[i.toNat]:=List.getElem?_eq_getElem (by omega)
 have hl:=mN (P:=Try.prog) (ty:=37) hs ht uL oO
 obtain⟨v,M',h1,h2,_,h3⟩:=w49 b o c es es[i.toNat] i hM a0 hl
 exact⟨v,M',h1,h2,by show Fl (iI i (Xs es i)) _ _;rw[Cm ht];exact h3⟩
theorem rK79:Try.f79.results= #[.cell 6 42]:=by kernel_rfl
theorem w79(ab ao ca:Nat)(arcs:List A7)(x y:A7)(ia ib:Int){M:aA}(hM:aB M)(h4:ab<M.next)(f6:0<=(ia:Int)/\(ia:Int)<arcs.length)(d4:bI Try.prog 42 ⟨ab,ao+(ia:Int).toNat*7,none⟩ M=some (.agg ⟨(bL x)⟩))(f7:0<=(ib:Int)/\(ib:Int)<arcs.length)(d5:bI Try.prog 42 ⟨ab,ao+(ib:Int).toNat*7,none⟩ M=some (.agg ⟨(bL y)⟩)): ∃v_ M',Ev Try.prog [] 79 [aC ab ao arcs.length ca,i64 ia,i64 ib] M v_ M'/\Ext M M'/\aB M'/\v_= .agg ⟨bL ⟨x.f,y.t,x.m,IntKind.wrap .i64 (x.c+y.c),-1,ia,ib⟩⟩:=by
 obtain⟨b1,M2,f0,g0,g5,E6,h3⟩:=bE hM ⟨[i64 0,i64 0,i64 0,i64 0,i64 0,i64 0,i64 0],42,7,0,true⟩
 have h6:M.next<=b1:=by rw[<-f0];exact(Ext.refl M).next
 have X9:=(Ext.refl M).trans E6
 obtain⟨c5,a2⟩:=Kz M2 M2 []
 have c2:=Ow a2 X9
 have d6:c5.log= []:=by rw[a2]
 have a9:c5.next=M2.next:=by rw[a2]
 have c7:=Lg a2 h3
 have b5:=Nat.lt_of_lt_of_le h4 X9.next
 have ltb1M2:=aA.lt_of_get g5
 have f1:=cG a2 g5
 obtain⟨a7,a6,b4,b7,f2,e5,c8⟩:=bE c7 ⟨[i64 0,i64 0,i64 0,i64 0,i64 0,i64 0,i64 0],42,7,0,true⟩
 have e1:M.next<=a7:=(mG b4 c2:)
 have b2:=fL f1 b4
 have f4:=e5.old f1
 have d7:a6.log= []:=by rw[<-b7];exact d6
 have e6:=c2.trans e5
 obtain⟨b0,a3,a8,b8,g1,c3,c9⟩:=bE c8 ⟨[i64 0,i64 0,i64 0,i64 0,i64 0,i64 0,i64 0],42,7,0,true⟩
 have e2:M.next<=b0:=(mG a8 e6:)
 have b3:=fL f4 a8
 have a4:=fL f2 a8
 have g2:=c3.old f4
 have g3:=c3.old f2
 have d8:a3.log= []:=by rw[<-b8];exact d7
 have e7:=e6.trans c3
 obtain⟨b6,h8,g4,b9,e8,d0,e3⟩:=aZ (o:=0) (v:=(.agg ⟨(bL x)⟩)) (new:= (bL x)) e7 e1 c9 lP g3 rfl rfl (Nat.zero_le _) (Nat.le_of_ble_eq_true rfl) rfl
 have g6:=(b9 _ b2).trans g2
 have g7:=(b9 _ (Ne.symm a4)).trans g1
 have d9:b6.log= [a7]:=by rw[e3,d8]
 obtain⟨a0,q50,g8,c0,e9,d1,e4⟩:=aZ (o:=0) (v:=(.agg ⟨(bL y)⟩)) (new:= (bL y)) e8 e2 d0 lP g7 rfl rfl (Nat.zero_le _) (Nat.le_of_ble_eq_true rfl) rfl
 have g9:=(c0 _ b3).trans g6
 have h0:=(c0 _ a4).trans g4
 have e0:a0.log= [b0,a7]:=by rw[e4,d9]
 obtain⟨c4,a5⟩: ∃m:aA,m=(aA.mk a0.blks a0.next a0.hide (a0.log++M2.log)):=⟨_,rfl⟩
 have f8:Ext M c4:=by rw[a5];exact Ext.join (X9) (e9)
 have d2:aB c4:=by rw[a5];exact d1
 have h1:=cG a5 g9
 have c6:=cG a5 h0
 have f5:=cG a5 g8
 obtain⟨c1,h9,h2,h5,f9,d3,h7⟩:=aZ (o:=0) (v:=(.agg ⟨[i64 x.f,i64 y.t,i64 x.m,i64 (IntKind.wrap .i64 (x.c+y.c)),i64 (-1),i64 ia,i64 ib]⟩)) (new:= [i64 x.f,i64 y.t,i64 x.m,i64 (IntKind.wrap .i64 (x.c+y.c)),i64 (-1),i64 ia,i64 ib]) f8 h6 d2 lP h1 rfl rfl (Nat.zero_le _) (Nat.le_of_ble_eq_true rfl) rfl
 have a1:oT Try.prog [] 60 Try.f79 q79 [aC ab ao arcs.length ca,i64 ia,i64 ib] M [bK 1 (pt b1 0) M2,aP 7,aR 9 (.agg ⟨(bL x)⟩),aP 15,aR 17 (.agg ⟨(bL y)⟩),bK 19 (pt a7 0) a6,bK 21 (pt b0 0) (aA.mk a3.blks a3.next (aV 0 [⟨8,1,M2.next,a6.next⟩,⟨3,1,M2.next,M2.next⟩]++M2.hide) a3.log),jJ 23 b6,jJ 25 a0,aR 29 (i64 x.f),aR 33 (i64 y.t),aR 37 (i64 x.m),aR 41 (i64 x.c),aR 45 (i64 y.c),jJ 55 c1] 6=some (.ret,some (pt b1 0),c1,[.eq (cN Try.prog 42 M) (1,.val (pt b1 0),M2),.q (.inb ia arcs.length) (eT true),qL 42 ab (ao+(ia:Int).toNat*7) (aA.mk M2.blks M2.next M2.hide []) (.agg ⟨(bL x)⟩),.q (.inb ib arcs.length) (eT true),qL 42 ab (ao+(ib:Int).toNat*7) (aA.mk M2.blks M2.next (aV 112 [⟨3,1,M2.next,M2.next⟩]++M2.hide) []) (.agg ⟨(bL y)⟩),qT (Nat.blt ab M2.next),.eq (cN Try.prog 42 (aA.mk M2.blks M2.next (aV 0 [⟨3,1,M2.next,M2.next⟩]++M2.hide) [])) (1,.val (pt a7 0),a6),.eq (cN Try.prog 42 (aA.mk a6.blks a6.next (aV 0 [⟨8,1,M2.next,a6.next⟩,⟨3,1,M2.next,M2.next⟩]++M2.hide) a6.log)) (1,.val (pt b0 0),(aA.mk a3.blks a3.next (aV 0 [⟨8,1,M2.next,a6.next⟩,⟨3,1,M2.next,M2.next⟩]++M2.hide) a3.log)),qS 42 a7 0 (.agg ⟨(bL x)⟩) (aA.mk (aA.mk a3.blks a3.next (aV 0 [⟨8,1,M2.next,a6.next⟩,⟨3,1,M2.next,M2.next⟩]++M2.hide) a3.log).blks (aA.mk a3.blks a3.next (aV 0 [⟨8,1,M2.next,a6.next⟩,⟨3,1,M2.next,M2.next⟩]++M2.hide) a3.log).next M2.hide (aA.mk a3.blks a3.next (aV 0 [⟨8,1,M2.next,a6.next⟩,⟨3,1,M2.next,M2.next⟩]++M2.hide) a3.log).log) b6,qS 42 b0 0 (.agg ⟨(bL y)⟩) (aA.mk b6.blks b6.next M2.hide b6.log) a0,qT (cY [ab] a0.log),qL 3 a7 0 (aA.mk a0.blks a0.next M2.hide (a0.log++M2.log)) (i64 x.f),qL 3 b0 1 (aA.mk a0.blks a0.next M2.hide (a0.log++M2.log)) (i64 y.t),qL 3 a7 2 (aA.mk a0.blks a0.next M2.hide (a0.log++M2.log)) (i64 x.m),qL 3 a7 3 (aA.mk a0.blks a0.next M2.hide (a0.log++M2.log)) (i64 x.c),qL 3 b0 3 (aA.mk a0.blks a0.next M2.hide (a0.log++M2.log)) (i64 y.c),qS 42 b1 0 (.agg ⟨[i64 x.f,i64 y.t,i64 x.m,i64 (IntKind.wrap .i64 (x.c+y.c)),i64 (-1),i64 ia,i64 ib]⟩) (aA.mk a0.blks a0.next M2.hide (a0.log++M2.log)) c1]):=by kernel_rfl
 dsimp only at a1
 have i0:aA.mk M2.blks M2.next M2.hide []=c5:=a2.symm
 have i1:=Yt (k:=112) (l:=[⟨3,1,M2.next,M2.next⟩]) a2 (by simp [aV,Nat.beq_refl,a9,Nx,Ny])
 have i2:=Yt (k:=0) (l:=[⟨3,1,M2.next,M2.next⟩]) a2 (by simp [aV,Nat.beq_refl,a9,Nx,Ny])
 have i3:=pY ((X9).hide.trans (e7).hide.symm)
 have i4:=pY ((X9).hide.trans (e8).hide.symm)
 have i5:=Ew (L:=(a0.log++M2.log)) ((X9).hide.trans (e9).hide.symm)
 have i6:(aA.mk a0.blks a0.next a0.hide (a0.log++M2.log))=c4:=a5.symm
 try rw[i0] at a1
 try rw[i1] at a1
 try rw[i2] at a1
 try rw[i3] at a1
 try rw[i4] at a1
 try rw[i5] at a1
 try rw[i6] at a1
 exact⟨.agg ⟨[i64 x.f,i64 y.t,i64 x.m,i64 (IntKind.wrap .i64 (x.c+y.c)),i64 (-1),i64 ia,i64 ib]⟩,c1,Ev.told_cell aG aF Try.func79 aAL (by kernel_rfl) rK79 (aI Try.prog) (fun _ _=>rfl) a1 (mM (a:=⟨b1,0,none⟩) uM lP h2 rfl) (hk (bP (by rw[<-f0,<-g0];kernel_rfl) Nat.one_ne_zero) (hk (dY f6.1 f6.2) (hk (fF (aS c2 d4)) (hk (dY f7.1 f7.2) (hk (fF (aS c2 d5)) (hk (mB b5) (hk (bP (by rw[<-b4,<-b7];kernel_rfl) Nat.one_ne_zero) (hk (bP (by rw[<-a8,<-b8];kernel_rfl) Nat.one_ne_zero) (hk (dA h8) (hk (dA q50) (hk (eD (by rw[e0];simp<;>omega)) (hk (lC bV c6 rfl) (hk (lC bV f5 rfl) (hk (lC bV c6 rfl) (hk (lC bV c6 rfl) (hk (lC bV f5 rfl) (hk (dA h9) hn))))))))))))))))),f9,d3,rfl⟩
abbrev Q79:=FC (hZ (Ve eN pI pI) fun x:List A7×Int×Int=>(0<=x.2.1/\x.2.1<(x.1.length:Int))/\(0<=x.2.2/\x.2.2<(x.1.length:Int))/\0<=(sG x.1 x.2.1).c+(sG x.1 x.2.2).c/\(sG x.1 x.2.1).c+(sG x.1 x.2.2).c<9223372036854775808) (plain Fl) (fun x=>mF (sG x.1 x.2.1) (sG x.1 x.2.2) x.2.1 x.2.2)
theorem con79{x:List A7×Int×Int}{lv:List Value}{M:aA}(hM:aB M)(h:(hZ (Ve eN pI pI) fun x:List A7×Int×Int=>(0<=x.2.1/\x.2.1<(x.1.length:Int))/\(0<=x.2.2/\x.2.2<(x.1.length:Int))/\0<=(sG x.1 x.2.1).c+(sG x.1 x.2.2).c/\(sG x.1 x.2.1).c+(sG x.1 x.2.2).c<9223372036854775808) x lv M): ∃v M',lM Try.prog [] 79 Q79 lv M v M':=by
 refine FC.con h ?_
 obtain⟨⟨g0,g1,g2,rfl,hs,k1,k2⟩,h1,h2,h3⟩:=h
 obtain⟨arcs,ia,ib⟩:=x
 obtain rfl:=k1
 obtain rfl:=k2
 simp only at h1 h2 h3 hs
 obtain⟨a,c,rfl⟩:=aH.form hs
 obtain⟨b,o,rfl,_⟩:=cF hs (by omega)
 have ta:arcs[ia.toNat]?=some arcs[ia.toNat]:=List.getElem?_eq_getElem (by omega)
 have tb:arcs[ib.toNat]?=some arcs[ib.toNat]:=List.getElem?_eq_getElem (by omega)
 have la:=mN (P:=Try.prog) (ty:=42) hs ta uM lP
 have lb:=mN (P:=Try.prog) (ty:=42) hs tb uM lP
 obtain⟨v,M',q1,q2,_,q3⟩:=w79 b o c arcs arcs[ia.toNat] arcs[ib.toNat] ia ib hM (mD hs (by omega)) h1 la h2 lb
 refine⟨v,M',q1,q2,?_⟩
 rw[qQ ta,qQ tb] at h3
 show Fl (mF (sG arcs ia) (sG arcs ib) ia ib) _ _
 rw[qQ ta,qQ tb]
 rw[yD (by omega) (by omega)] at q3
 exact q3
theorem Vj:(Try.prog.underlying 70).map dR=some false:=by kernel_rfl
theorem Qz:Try.f48.results= #[.tmp 6]:=by kernel_rfl
theorem w48A0(B C K n:Nat)(cur:List Int)(a:A7)(num:Int)(y:List A7)(z:Int){M M0:aA}(hM:aB M)(X0:Ext M0 M)(gC:M.get C=some ⟨[i64 n,aC K 0 (n*n*5) (n*n*5+1),.func (.func 46) ⟨[pt B 0]⟩ ⟨[]⟩],73,3,0,true⟩)(gK:M.get K=some ⟨cur.map i64,3,1,0,true⟩)(nK:M0.next<=K)(dCK:C≠K)(hY:(Ml 53) y (pt B 0) (cK [(K,K+1)] M))(d8:cur.length=n*n*5)(a5:n<=60/\(0<=a.f/\a.f<(n:Int))/\(0<=a.t/\a.t<(n:Int))/\(0<=a.m/\a.m<5))(hz:z≠ -1->0<=z/\z<(y.length:Int))(a4:(z==(-1:Int))=true)(b0:0<=(dM (n:Int) a.f a.t a.m:Int)/\(dM (n:Int) a.f a.t a.m:Int)<(n*n*5))(d7:(cur.map i64)[0+(dM (n:Int) a.f a.t a.m:Int).toNat*1]?=some (i64 z))(b7:0+(dM (n:Int) a.f a.t a.m:Int).toNat*1+1<=(cur.map i64).length): ∃M',Ev Try.prog [] 48 [pt C 0,.agg ⟨(bL a)⟩,i64 num] M (.bool true) M'/\Ext M0 M'/\aB M'/\M'.get K=some ⟨splice (cur.map i64) (0+(dM (n:Int) a.f a.t a.m:Int).toNat*1) [i64 num],3,1,0,true⟩/\(∀id k,M.get id=some k->id≠K->M'.get id=some k):=by
 obtain⟨b1,M2,c9,d0,g5,E6,d6⟩:=bE hM ⟨(bL a),42,7,0,true⟩
 have g9:=E6.old gC
 have c0:=E6.old gK
 have c4:=X0.trans E6
 obtain⟨Rg,e5,a0,e2,e0,c8,a8,b3,c3⟩:=aM (x:=((n,cur),a.f,a.t,a.m)) d6 Ge (⟨⟨_,_,_,_,rfl,⟨C,K,n*n*5+1,.func (.func 46) ⟨[pt B 0]⟩ ⟨[]⟩,rfl,(by rw[d8];exact g9),c0⟩,rfl,rfl,rfl⟩,a5⟩)
 have c1:=a8.old g9
 have c2:=a8.old c0
 have b2:Rg=i64 (dM (n:Int) a.f a.t a.m):=c3
 subst b2
 have b9:=c4.trans a8
 obtain⟨a1,a2⟩:=Kz a0 a0 []
 have c5:=Ow a2 b9
 have b4:=Lg a2 b3
 have d1:=cG a2 c1
 have d2:=cG a2 c2
 obtain⟨a9,a3⟩: ∃m:aA,m=(aA.mk a1.blks a1.next a1.hide (a1.log++a0.log)):=⟨_,rfl⟩
 have c6:Ext M0 a9:=by rw[a3];exact Ext.join (b9) (c5)
 have b5:aB a9:=by rw[a3];exact b4
 have d3:=cG a3 d1
 have d4:=cG a3 d2
 obtain⟨a7,q46,d5,b8,c7,b6,e1⟩:=aZ (o:=0+(dM (n:Int) a.f a.t a.m:Int).toNat*1) (v:=(i64 num)) (new:=splice (cur.map i64) (0+(dM (n:Int) a.f a.t a.m:Int).toNat*1) [i64 num]) c6 nK b5 Jc d4 rfl rfl (Nat.zero_le _) b7 rfl
 have a6:oT Try.prog [] 60 Try.f48 Wn [pt C 0,.agg ⟨(bL a)⟩,i64 num] M [bK 1 (pt b1 0) M2,aR 9 (i64 a.f),aR 13 (i64 a.t),aR 17 (i64 a.m),bK 19 (i64 (dM (n:Int) a.f a.t a.m)) a0,aR 29 (aC K 0 (n*n*5) (n*n*5+1)),aP 33,aR 35 (i64 z),aO 44,aO 46,aO 48,aO 50,aO 52,aO 54,aO 56,aO 58,aO 60,aO 63,aR 72 (aC K 0 (n*n*5) (n*n*5+1)),aP 78,jJ 80 a7] 6=some (.ret,some (.bool true),a7,[.eq (eL Try.prog 42 (.agg ⟨(bL a)⟩) M) (1,.val (pt b1 0),M2),qL 3 b1 0 M2 (i64 a.f),qL 3 b1 1 M2 (i64 a.t),qL 3 b1 2 M2 (i64 a.m),qC 72 [pt C 0,i64 a.f,i64 a.t,i64 a.m] M2 (i64 (dM (n:Int) a.f a.t a.m)) a0,qL 22 C 1 a0 (aC K 0 (n*n*5) (n*n*5+1)),.q (.inb (dM (n:Int) a.f a.t a.m) (n*n*5)) (eT true),qL 3 K (0+(dM (n:Int) a.f a.t a.m:Int).toNat*1) a0 (i64 z),qF (!(z==(-1:Int))),qF (!(z==(-1:Int))),qF (!(z==(-1:Int))),qF (!(z==(-1:Int))),qF (!(z==(-1:Int))),qF (!(z==(-1:Int))),qF (!(z==(-1:Int))),qF (!(z==(-1:Int))),qF (!(z==(-1:Int))),qF (!(z==(-1:Int))),qT (cY [] []),qL 22 C 1 (aA.mk a0.blks a0.next a0.hide ([]++a0.log)) (aC K 0 (n*n*5) (n*n*5+1)),.q (.inb (dM (n:Int) a.f a.t a.m) (n*n*5)) (eT true),qS 3 K (0+(dM (n:Int) a.f a.t a.m:Int).toNat*1) (i64 num) (aA.mk a0.blks a0.next a0.hide ([]++a0.log)) a7]):=by kernel_rfl
 have e3:(aA.mk a0.blks a0.next a0.hide ([]++a0.log))=(aA.mk a1.blks a1.next a1.hide (a1.log++a0.log)):=by rw[a2]
 have e4:(aA.mk a1.blks a1.next a1.hide (a1.log++a0.log))=a9:=a3.symm
 try rw[e3] at a6
 try rw[e4] at a6
 have d9: ∀id k,M.get id=some k->id≠K->a7.get id=some k:=fun id k g h_K=>by
  have g:=E6.old g
  have g:=a8.old g
  have g:a1.get id=some k:=by rw[a2];exact g
  have g:a9.get id=some k:=by rw[a3];exact g
  have g:=((fun id h _=>b8 id h) id h_K (aA.lt_of_get g)).trans g
  exact g
 exact⟨a7,Ev.told_tmp aG aF Try.func48 zG (by kernel_rfl) Qz (fun B=>lQ (gP 72 Va (gS _))) (fun _ _=>rfl) a6 (hk (bP (by rw[<-c9,<-d0];kernel_rfl) Nat.one_ne_zero) (hk (lC bV g5 rfl) (hk (lC bV g5 rfl) (hk (lC bV g5 rfl) (hk (aJ rfl e2 e0 c8) (hk (lC jU c1 rfl) (hk (dY b0.1 b0.2) (hk (fF (bG (a:=⟨K,0+(dM (n:Int) a.f a.t a.m:Int).toNat*1,none⟩) bV c2 d7)) (hk (bF (by rw[a4];rfl)) (hk (bF (by rw[a4];rfl)) (hk (bF (by rw[a4];rfl)) (hk (bF (by rw[a4];rfl)) (hk (bF (by rw[a4];rfl)) (hk (bF (by rw[a4];rfl)) (hk (bF (by rw[a4];rfl)) (hk (bF (by rw[a4];rfl)) (hk (bF (by rw[a4];rfl)) (hk (bF (by rw[a4];rfl)) (hk (eD (by simp)) (hk (lC jU d3 rfl) (hk (dY b0.1 b0.2) (hk (dA q46) hn)))))))))))))))))))))),c7,b6,d5,d9⟩
theorem Pk(B C K n:Nat)(cur:List Int)(a:A7)(num:Int)(y:List A7)(z:Int){M M0:aA}(hM:aB M)(X0:Ext M0 M)(gC:M.get C=some ⟨[i64 n,aC K 0 (n*n*5) (n*n*5+1),.func (.func 46) ⟨[pt B 0]⟩ ⟨[]⟩],73,3,0,true⟩)(gK:M.get K=some ⟨cur.map i64,3,1,0,true⟩)(nK:M0.next<=K)(dCK:C≠K)(hY:(Ml 53) y (pt B 0) (cK [(K,K+1)] M))(g3:cur.length=n*n*5)(b5:n<=60/\(0<=a.f/\a.f<(n:Int))/\(0<=a.t/\a.t<(n:Int))/\(0<=a.m/\a.m<5))(hz:z≠ -1->0<=z/\z<(y.length:Int))(a5:(z==(-1:Int))=false): (∀(cc1:(decide ((cS y z)<=a.c))=true)(hi0:0<=(dM (n:Int) a.f a.t a.m:Int)/\(dM (n:Int) a.f a.t a.m:Int)<(n*n*5))(hc1:(cur.map i64)[0+(dM (n:Int) a.f a.t a.m:Int).toNat*1]?=some (i64 z)),∃M',Ev Try.prog [] 48 [pt C 0,.agg ⟨(bL a)⟩,i64 num] M (.bool false) M'/\Ext M0 M'/\aB M'/\M'.get K=some ⟨cur.map i64,3,1,0,true⟩/\(∀id k,M.get id=some k->id≠K->M'.get id=some k))/\(∀(cc1:(decide ((cS y z)<=a.c))=false)(hi0:0<=(dM (n:Int) a.f a.t a.m:Int)/\(dM (n:Int) a.f a.t a.m:Int)<(n*n*5))(hc1:(cur.map i64)[0+(dM (n:Int) a.f a.t a.m:Int).toNat*1]?=some (i64 z))(hof2:0+(dM (n:Int) a.f a.t a.m:Int).toNat*1+1<=(cur.map i64).length),∃M',Ev Try.prog [] 48 [pt C 0,.agg ⟨(bL a)⟩,i64 num] M (.bool true) M'/\Ext M0 M'/\aB M'/\M'.get K=some ⟨splice (cur.map i64) (0+(dM (n:Int) a.f a.t a.m:Int).toNat*1) [i64 num],3,1,0,true⟩/\(∀id k,M.get id=some k->id≠K->M'.get id=some k)):=by
 obtain⟨b1,M2,c3,e3,g5,E6,g2⟩:=bE hM ⟨(bL a),42,7,0,true⟩
 have F8:=jH (R:=(Ml 53)) hY c3 E6
 have g9:=E6.old gC
 have e4:=E6.old gK
 have f7:=X0.trans E6
 obtain⟨Rg,g7,a0,f0,e8,e2,a9,d1,f4⟩:=aM (x:=((n,cur),a.f,a.t,a.m)) g2 Ge (⟨⟨_,_,_,_,rfl,⟨C,K,n*n*5+1,.func (.func 46) ⟨[pt B 0]⟩ ⟨[]⟩,rfl,(by rw[g3];exact g9),e4⟩,rfl,rfl,rfl⟩,b5⟩)
 have f5:=iM (R:=(Ml 53)) F8 a9
 have c5:=a9.old g9
 have c6:=a9.old e4
 have e5:=a9.old g5
 have c4:Rg=i64 (dM (n:Int) a.f a.t a.m):=f4
 subst c4
 have b0:=f7.trans a9
 obtain⟨b7,a3⟩:=Kz a0 a0 []
 have e1:=Ow a3 b0
 have c0:b7.log= []:=by rw[a3]
 have d2:=Lg a3 d1
 have c7:=cG a3 c5
 have e6:=cG a3 c6
 have a6:=aA.lt_of_get e5
 have e7:=cG a3 e5
 have f6:=gI (R:=(Ml 53)) (M':=b7) f5 (fun id b h=>by rw[a3];exact h)
 obtain⟨f2,g8,a1,f1,e9,c1,a8,b9,e0⟩:=aM (x:=(y,z)) d2 con46 (⟨⟨_,_,rfl,eO (R:=(Ml 53)) f6,rfl⟩,hz (by intro e;rw[e] at a5;cases a5)⟩)
 refine⟨?_,?_⟩
 ·intro cc1 hi0 hc1
  have c8:=a8.old e6
  have c9:=a8.old e7
  have b3:f2=i64 (cS y z):=e0
  subst b3
  have b6:a1.log= []:=by rw[<-c1];exact c0
  have b2:=e1.trans a8
  obtain⟨a7,a2⟩: ∃m:aA,m=(aA.mk a1.blks a1.next a1.hide (a1.log++a0.log)):=⟨_,rfl⟩
  have c2:Ext M0 a7:=by rw[a2];exact Ext.join (b0) (b2)
  have b4:aB a7:=by rw[a2];exact b9
  have d0:=cG a2 c8
  have a4:oT Try.prog [] 60 Try.f48 Wn [pt C 0,.agg ⟨(bL a)⟩,i64 num] M [bK 1 (pt b1 0) M2,aR 9 (i64 a.f),aR 13 (i64 a.t),aR 17 (i64 a.m),bK 19 (i64 (dM (n:Int) a.f a.t a.m)) a0,aR 29 (aC K 0 (n*n*5) (n*n*5+1)),aP 33,aR 35 (i64 z),aP 44,aP 46,aP 48,aP 50,aR 51 (.func (.func 46) ⟨[pt B 0]⟩ ⟨[]⟩),aP 52,aP 54,bK 55 (i64 (cS y z)) a1,aP 56,aP 58,aR 59 (i64 a.c),aP 60,aP 63,aP 64] 6=some (.ret,some (.bool false),aA.mk a1.blks a1.next a0.hide (a1.log++a0.log),[.eq (eL Try.prog 42 (.agg ⟨(bL a)⟩) M) (1,.val (pt b1 0),M2),qL 3 b1 0 M2 (i64 a.f),qL 3 b1 1 M2 (i64 a.t),qL 3 b1 2 M2 (i64 a.m),qC 72 [pt C 0,i64 a.f,i64 a.t,i64 a.m] M2 (i64 (dM (n:Int) a.f a.t a.m)) a0,qL 22 C 1 a0 (aC K 0 (n*n*5) (n*n*5+1)),.q (.inb (dM (n:Int) a.f a.t a.m) (n*n*5)) (eT true),qL 3 K (0+(dM (n:Int) a.f a.t a.m:Int).toNat*1) a0 (i64 z),qT (!(z==(-1:Int))),qT (!(z==(-1:Int))),qT (!(z==(-1:Int))),qT (!(z==(-1:Int))),qL 70 C 2 (aA.mk a0.blks a0.next a0.hide []) (.func (.func 46) ⟨[pt B 0]⟩ ⟨[]⟩),qT (!(z==(-1:Int))),qT (!(z==(-1:Int))),qC 46 [pt B 0,i64 z] (aA.mk a0.blks a0.next a0.hide []) (i64 (cS y z)) a1,qT (!(z==(-1:Int))),qT (!(z==(-1:Int))),qL 3 b1 3 (aA.mk a1.blks a1.next (aV 519 [⟨8,1,a0.next,a1.next⟩,⟨6,1,a0.next,a0.next⟩]++a0.hide) a1.log) (i64 a.c),qT (Nat.blt b1 a0.next),qT (!(z==(-1:Int))),qT (!(z==(-1:Int))),qT (cY [b1] a1.log),qT (decide ((cS y z)<=a.c))]):=by kernel_rfl
  have d6:aA.mk a0.blks a0.next a0.hide []=b7:=a3.symm
  have d7:=Jd 519 [⟨8,1,a0.next,a1.next⟩,⟨6,1,a0.next,a0.next⟩] ((b0).hide.trans (b2).hide.symm)
  have d8:=Ew (L:=(a1.log++a0.log)) ((b0).hide.trans (b2).hide.symm)
  have d9:(aA.mk a1.blks a1.next a1.hide (a1.log++a0.log))=a7:=a2.symm
  try rw[d6] at a4
  try rw[d7] at a4
  try rw[d8] at a4
  try rw[d9] at a4
  have d4: ∀id k,M.get id=some k->id≠K->a7.get id=some k:=fun id k g h_K=>by
   have g:=E6.old g
   have g:=a9.old g
   have g:b7.get id=some k:=by rw[a3];exact g
   have g:=a8.old g
   have g:a7.get id=some k:=by rw[a2];exact g
   exact g
  exact⟨a7,Ev.told_tmp aG aF Try.func48 zG (by kernel_rfl) Qz (fun B=>lQ (gP 46 Q46 (gP 72 Va (gS _)))) (fun _ _=>rfl) a4 (hk (bP (by rw[<-c3,<-e3];kernel_rfl) Nat.one_ne_zero) (hk (lC bV g5 rfl) (hk (lC bV g5 rfl) (hk (lC bV g5 rfl) (hk (aJ rfl f0 e8 e2) (hk (lC jU c5 rfl) (hk (dY hi0.1 hi0.2) (hk (fF (bG (a:=⟨K,0+(dM (n:Int) a.f a.t a.m:Int).toNat*1,none⟩) bV c6 hc1)) (hk (bT (by rw[a5];rfl)) (hk (bT (by rw[a5];rfl)) (hk (bT (by rw[a5];rfl)) (hk (bT (by rw[a5];rfl)) (hk (lC Vj c7 rfl) (hk (bT (by rw[a5];rfl)) (hk (bT (by rw[a5];rfl)) (hk (aJ rfl f1 e9 c1) (hk (bT (by rw[a5];rfl)) (hk (bT (by rw[a5];rfl)) (hk (lC bV (cB.2 ⟨dI (by simp;omega),c9⟩) rfl) (hk (mB a6) (hk (bT (by rw[a5];rfl)) (hk (bT (by rw[a5];rfl)) (hk (eD (by rw[b6];simp<;>omega)) (hk (bT cc1) hn)))))))))))))))))))))))),c2,b4,d0,d4⟩
 ·intro cc1 hi0 hc1 hof2
  have f9:=a8.old c7
  have c8:=a8.old e6
  have c9:=a8.old e7
  have b3:f2=i64 (cS y z):=e0
  subst b3
  have b6:a1.log= []:=by rw[<-c1];exact c0
  have b2:=e1.trans a8
  obtain⟨a7,a2⟩: ∃m:aA,m=(aA.mk a1.blks a1.next a1.hide (a1.log++a0.log)):=⟨_,rfl⟩
  have c2:Ext M0 a7:=by rw[a2];exact Ext.join (b0) (b2)
  have b4:aB a7:=by rw[a2];exact b9
  have g0:=cG a2 f9
  have d0:=cG a2 c8
  obtain⟨b8,g6,g1,d5,f8,d3,g4⟩:=aZ (o:=0+(dM (n:Int) a.f a.t a.m:Int).toNat*1) (v:=(i64 num)) (new:=splice (cur.map i64) (0+(dM (n:Int) a.f a.t a.m:Int).toNat*1) [i64 num]) c2 nK b4 Jc d0 rfl rfl (Nat.zero_le _) hof2 rfl
  have a4:oT Try.prog [] 60 Try.f48 Wn [pt C 0,.agg ⟨(bL a)⟩,i64 num] M [bK 1 (pt b1 0) M2,aR 9 (i64 a.f),aR 13 (i64 a.t),aR 17 (i64 a.m),bK 19 (i64 (dM (n:Int) a.f a.t a.m)) a0,aR 29 (aC K 0 (n*n*5) (n*n*5+1)),aP 33,aR 35 (i64 z),aP 44,aP 46,aP 48,aP 50,aR 51 (.func (.func 46) ⟨[pt B 0]⟩ ⟨[]⟩),aP 52,aP 54,bK 55 (i64 (cS y z)) a1,aP 56,aP 58,aR 59 (i64 a.c),aP 60,aP 63,aO 64,aR 72 (aC K 0 (n*n*5) (n*n*5+1)),aP 78,jJ 80 b8] 6=some (.ret,some (.bool true),b8,[.eq (eL Try.prog 42 (.agg ⟨(bL a)⟩) M) (1,.val (pt b1 0),M2),qL 3 b1 0 M2 (i64 a.f),qL 3 b1 1 M2 (i64 a.t),qL 3 b1 2 M2 (i64 a.m),qC 72 [pt C 0,i64 a.f,i64 a.t,i64 a.m] M2 (i64 (dM (n:Int) a.f a.t a.m)) a0,qL 22 C 1 a0 (aC K 0 (n*n*5) (n*n*5+1)),.q (.inb (dM (n:Int) a.f a.t a.m) (n*n*5)) (eT true),qL 3 K (0+(dM (n:Int) a.f a.t a.m:Int).toNat*1) a0 (i64 z),qT (!(z==(-1:Int))),qT (!(z==(-1:Int))),qT (!(z==(-1:Int))),qT (!(z==(-1:Int))),qL 70 C 2 (aA.mk a0.blks a0.next a0.hide []) (.func (.func 46) ⟨[pt B 0]⟩ ⟨[]⟩),qT (!(z==(-1:Int))),qT (!(z==(-1:Int))),qC 46 [pt B 0,i64 z] (aA.mk a0.blks a0.next a0.hide []) (i64 (cS y z)) a1,qT (!(z==(-1:Int))),qT (!(z==(-1:Int))),qL 3 b1 3 (aA.mk a1.blks a1.next (aV 519 [⟨8,1,a0.next,a1.next⟩,⟨6,1,a0.next,a0.next⟩]++a0.hide) a1.log) (i64 a.c),qT (Nat.blt b1 a0.next),qT (!(z==(-1:Int))),qT (!(z==(-1:Int))),qT (cY [b1] a1.log),qF (decide ((cS y z)<=a.c)),qL 22 C 1 (aA.mk a1.blks a1.next a0.hide (a1.log++a0.log)) (aC K 0 (n*n*5) (n*n*5+1)),.q (.inb (dM (n:Int) a.f a.t a.m) (n*n*5)) (eT true),qS 3 K (0+(dM (n:Int) a.f a.t a.m:Int).toNat*1) (i64 num) (aA.mk a1.blks a1.next a0.hide (a1.log++a0.log)) b8]):=by kernel_rfl
  have d6:aA.mk a0.blks a0.next a0.hide []=b7:=a3.symm
  have d7:=Jd 519 [⟨8,1,a0.next,a1.next⟩,⟨6,1,a0.next,a0.next⟩] ((b0).hide.trans (b2).hide.symm)
  have d8:=Ew (L:=(a1.log++a0.log)) ((b0).hide.trans (b2).hide.symm)
  have d9:(aA.mk a1.blks a1.next a1.hide (a1.log++a0.log))=a7:=a2.symm
  try rw[d6] at a4
  try rw[d7] at a4
  try rw[d8] at a4
  try rw[d9] at a4
  have d4: ∀id k,M.get id=some k->id≠K->b8.get id=some k:=fun id k g h_K=>by
   have g:=E6.old g
   have g:=a9.old g
   have g:b7.get id=some k:=by rw[a3];exact g
   have g:=a8.old g
   have g:a7.get id=some k:=by rw[a2];exact g
   have g:=((fun id h _=>d5 id h) id h_K (aA.lt_of_get g)).trans g
   exact g
  exact⟨b8,Ev.told_tmp aG aF Try.func48 zG (by kernel_rfl) Qz (fun B=>lQ (gP 46 Q46 (gP 72 Va (gS _)))) (fun _ _=>rfl) a4 (hk (bP (by rw[<-c3,<-e3];kernel_rfl) Nat.one_ne_zero) (hk (lC bV g5 rfl) (hk (lC bV g5 rfl) (hk (lC bV g5 rfl) (hk (aJ rfl f0 e8 e2) (hk (lC jU c5 rfl) (hk (dY hi0.1 hi0.2) (hk (fF (bG (a:=⟨K,0+(dM (n:Int) a.f a.t a.m:Int).toNat*1,none⟩) bV c6 hc1)) (hk (bT (by rw[a5];rfl)) (hk (bT (by rw[a5];rfl)) (hk (bT (by rw[a5];rfl)) (hk (bT (by rw[a5];rfl)) (hk (lC Vj c7 rfl) (hk (bT (by rw[a5];rfl)) (hk (bT (by rw[a5];rfl)) (hk (aJ rfl f1 e9 c1) (hk (bT (by rw[a5];rfl)) (hk (bT (by rw[a5];rfl)) (hk (lC bV (cB.2 ⟨dI (by simp;omega),c9⟩) rfl) (hk (mB a6) (hk (bT (by rw[a5];rfl)) (hk (bT (by rw[a5];rfl)) (hk (eD (by rw[b6];simp<;>omega)) (hk (bF cc1) (hk (lC jU g0 rfl) (hk (dY hi0.1 hi0.2) (hk (dA g6) hn))))))))))))))))))))))))))),f8,d3,g1,d4⟩
theorem Sg{x:LX (List A7)}{lv:List Value}{M:aA}(hM:aB M)(h:(Qs 73 46 cS (Ml 53) (fun y i=>0<=i/\i<(y.length:Int))).A x lv M)(a8:x.K<=M.next): ∃v M',TO Try.prog 48 (Qs 73 46 cS (Ml 53) (fun y i=>0<=i/\i<(y.length:Int))) lv M v M':=by
 have hA:=h
 obtain⟨C,K,B,n,cur,y,a,num⟩:=x
 obtain⟨rfl,gC,gK,hY,a3,hn,a1,hf,ht,hm,b0⟩:=h
 simp only at gC gK hY a3 hn a1 hf ht hm b0 a8
 have X0:=Ext.cut a8
 have nK:(cut K M).next<=K:=Nat.le_refl _
 have hp:=iP hf ht hm
 have a0:n<=60/\(0<=a.f/\a.f<(n:Int))/\(0<=a.t/\a.t<(n:Int))/\(0<=a.m/\a.m<5):=⟨hn,hf,ht,hm⟩
 have hz:aW cur (gJ n a)≠ -1->0<=aW cur (gJ n a)/\aW cur (gJ n a)<(y.length:Int):=fun e=>b0.resolve_left e
 have a7:0<=((dM (n:Int) (a.f) (a.t) (a.m)):Int)/\((dM (n:Int) (a.f) (a.t) (a.m)):Int)<(n*n*5):=by refine⟨hp.1,?_⟩;have:=hp.2;push_cast at this⊢;exact this
 have hk:gJ n a<cur.length:=by rw[a1];unfold gJ;omega
 have a5:0+((dM (n:Int) (a.f) (a.t) (a.m)):Int).toNat*1=gJ n a:=by unfold gJ;omega
 have a6:(cur.map i64)[0+((dM (n:Int) (a.f) (a.t) (a.m)):Int).toNat*1]?=some (i64 (aW cur (gJ n a))):=by rw[a5,List.getElem?_map,gH hk];rfl
 have a9:0+((dM (n:Int) (a.f) (a.t) (a.m)):Int).toNat*1+1<=(cur.map i64).length:=by rw[a5,List.length_map];omega
 have a2:splice (cur.map i64) (0+((dM (n:Int) (a.f) (a.t) (a.m)):Int).toNat*1) [i64 num]=(cur.set (gJ n a) num).map i64:=by rw[a5,fN _ _ _ (by simpa using hk),List.map_set]
 have a4: ∀{bv:Bool} {cu:List Int} {M':aA},Ev Try.prog [] 48 [pt C 0,.agg ⟨bL a⟩,i64 num] M (.bool bv) M'->Ext (cut K M) M'->M'.get K=some ⟨cu.map i64,3,1,0,true⟩->(∀id k,M.get id=some k->id≠K->M'.get id=some k)->bv=dK (cS y) (aW cur (gJ n a)) a.c->cu=iO cS ⟨C,K,B,n,cur,y,a,num⟩-> ∃v M',TO Try.prog 48 (Qs 73 46 cS (Ml 53) (fun y i=>0<=i/\i<(y.length:Int))) [pt C 0,.agg ⟨bL a⟩,i64 num] M v M':=
  fun h1 h2 h3 h4 e1 e2=>⟨_,_,h1,⟨C,K,B,n,cur,y,a,num⟩,hA,a8,h2,h4,by rw[e1],by rw[<-e2];exact h3⟩
 cases c0:aW cur (gJ n a)==(-1:Int) with
 |true=>
  obtain⟨M',h1,h2,h3,h4,h5⟩:=w48A0 B C K n cur a num y (aW cur (gJ n a)) hM X0 gC gK nK a3 hY a1 a0 hz c0 a7 a6 a9
  rw[a2] at h4
  exact a4 h1 h2 h4 h5 (by simp [dK,c0]) (by simp [iO,dK,c0])
 |false=>
  cases c1:decide (cS y (aW cur (gJ n a))<=a.c) with
  |true=>
   obtain⟨M',h1,h2,h3,h4,h5⟩:=(Pk B C K n cur a num y (aW cur (gJ n a)) hM X0 gC gK nK a3 hY a1 a0 hz c0).1 c1 a7 a6
   have e:dK (cS y) (aW cur (gJ n a)) a.c=false:=by simp only [dK,c0,Bool.false_or];exact decide_eq_false (by have:=of_decide_eq_true c1;omega)
   exact a4 h1 h2 h4 h5 e.symm (by simp [iO,e])
  |false=>
   obtain⟨M',h1,h2,h3,h4,h5⟩:=(Pk B C K n cur a num y (aW cur (gJ n a)) hM X0 gC gK nK a3 hY a1 a0 hz c0).2 c1 a7 a6 a9
   rw[a2] at h4
   have e:dK (cS y) (aW cur (gJ n a)) a.c=true:=by simp only [dK,c0,Bool.false_or];exact decide_eq_true (by have:=of_decide_eq_false c1;omega)
   exact a4 h1 h2 h4 h5 e.symm (by simp [iO,e])
theorem w48E0(B C K n:Nat)(cur:List Int)(a:A7)(num:Int)(y:List E4)(z:Int){M M0:aA}(hM:aB M)(X0:Ext M0 M)(gC:M.get C=some ⟨[i64 n,aC K 0 (n*n*5) (n*n*5+1),.func (.func 47) ⟨[pt B 0]⟩ ⟨[]⟩],73,3,0,true⟩)(gK:M.get K=some ⟨cur.map i64,3,1,0,true⟩)(nK:M0.next<=K)(dCK:C≠K)(hY:(Ip 53) y (pt B 0) (cK [(K,K+1)] M))(d8:cur.length=n*n*5)(a5:n<=60/\(0<=a.f/\a.f<(n:Int))/\(0<=a.t/\a.t<(n:Int))/\(0<=a.m/\a.m<5))(hz:z≠ -1->0<=z/\z<(y.length:Int))(a4:(z==(-1:Int))=true)(b0:0<=(dM (n:Int) a.f a.t a.m:Int)/\(dM (n:Int) a.f a.t a.m:Int)<(n*n*5))(d7:(cur.map i64)[0+(dM (n:Int) a.f a.t a.m:Int).toNat*1]?=some (i64 z))(b7:0+(dM (n:Int) a.f a.t a.m:Int).toNat*1+1<=(cur.map i64).length): ∃M',Ev Try.prog [] 48 [pt C 0,.agg ⟨(bL a)⟩,i64 num] M (.bool true) M'/\Ext M0 M'/\aB M'/\M'.get K=some ⟨splice (cur.map i64) (0+(dM (n:Int) a.f a.t a.m:Int).toNat*1) [i64 num],3,1,0,true⟩/\(∀id k,M.get id=some k->id≠K->M'.get id=some k):=by
 obtain⟨b1,M2,c9,d0,g5,E6,d6⟩:=bE hM ⟨(bL a),42,7,0,true⟩
 have g9:=E6.old gC
 have c0:=E6.old gK
 have c4:=X0.trans E6
 obtain⟨Rg,e5,a0,e2,e0,c8,a8,b3,c3⟩:=aM (x:=((n,cur),a.f,a.t,a.m)) d6 Ge (⟨⟨_,_,_,_,rfl,⟨C,K,n*n*5+1,.func (.func 47) ⟨[pt B 0]⟩ ⟨[]⟩,rfl,(by rw[d8];exact g9),c0⟩,rfl,rfl,rfl⟩,a5⟩)
 have c1:=a8.old g9
 have c2:=a8.old c0
 have b2:Rg=i64 (dM (n:Int) a.f a.t a.m):=c3
 subst b2
 have b9:=c4.trans a8
 obtain⟨a1,a2⟩:=Kz a0 a0 []
 have c5:=Ow a2 b9
 have b4:=Lg a2 b3
 have d1:=cG a2 c1
 have d2:=cG a2 c2
 obtain⟨a9,a3⟩: ∃m:aA,m=(aA.mk a1.blks a1.next a1.hide (a1.log++a0.log)):=⟨_,rfl⟩
 have c6:Ext M0 a9:=by rw[a3];exact Ext.join (b9) (c5)
 have b5:aB a9:=by rw[a3];exact b4
 have d3:=cG a3 d1
 have d4:=cG a3 d2
 obtain⟨a7,q46,d5,b8,c7,b6,e1⟩:=aZ (o:=0+(dM (n:Int) a.f a.t a.m:Int).toNat*1) (v:=(i64 num)) (new:=splice (cur.map i64) (0+(dM (n:Int) a.f a.t a.m:Int).toNat*1) [i64 num]) c6 nK b5 Jc d4 rfl rfl (Nat.zero_le _) b7 rfl
 have a6:oT Try.prog [] 60 Try.f48 Wn [pt C 0,.agg ⟨(bL a)⟩,i64 num] M [bK 1 (pt b1 0) M2,aR 9 (i64 a.f),aR 13 (i64 a.t),aR 17 (i64 a.m),bK 19 (i64 (dM (n:Int) a.f a.t a.m)) a0,aR 29 (aC K 0 (n*n*5) (n*n*5+1)),aP 33,aR 35 (i64 z),aO 44,aO 46,aO 48,aO 50,aO 52,aO 54,aO 56,aO 58,aO 60,aO 63,aR 72 (aC K 0 (n*n*5) (n*n*5+1)),aP 78,jJ 80 a7] 6=some (.ret,some (.bool true),a7,[.eq (eL Try.prog 42 (.agg ⟨(bL a)⟩) M) (1,.val (pt b1 0),M2),qL 3 b1 0 M2 (i64 a.f),qL 3 b1 1 M2 (i64 a.t),qL 3 b1 2 M2 (i64 a.m),qC 72 [pt C 0,i64 a.f,i64 a.t,i64 a.m] M2 (i64 (dM (n:Int) a.f a.t a.m)) a0,qL 22 C 1 a0 (aC K 0 (n*n*5) (n*n*5+1)),.q (.inb (dM (n:Int) a.f a.t a.m) (n*n*5)) (eT true),qL 3 K (0+(dM (n:Int) a.f a.t a.m:Int).toNat*1) a0 (i64 z),qF (!(z==(-1:Int))),qF (!(z==(-1:Int))),qF (!(z==(-1:Int))),qF (!(z==(-1:Int))),qF (!(z==(-1:Int))),qF (!(z==(-1:Int))),qF (!(z==(-1:Int))),qF (!(z==(-1:Int))),qF (!(z==(-1:Int))),qF (!(z==(-1:Int))),qT (cY [] []),qL 22 C 1 (aA.mk a0.blks a0.next a0.hide ([]++a0.log)) (aC K 0 (n*n*5) (n*n*5+1)),.q (.inb (dM (n:Int) a.f a.t a.m) (n*n*5)) (eT true),qS 3 K (0+(dM (n:Int) a.f a.t a.m:Int).toNat*1) (i64 num) (aA.mk a0.blks a0.next a0.hide ([]++a0.log)) a7]):=by kernel_rfl
 have e3:(aA.mk a0.blks a0.next a0.hide ([]++a0.log))=(aA.mk a1.blks a1.next a1.hide (a1.log++a0.log)):=by rw[a2]
 have e4:(aA.mk a1.blks a1.next a1.hide (a1.log++a0.log))=a9:=a3.symm
 try rw[e3] at a6
 try rw[e4] at a6
 have d9: ∀id k,M.get id=some k->id≠K->a7.get id=some k:=fun id k g h_K=>by
  have g:=E6.old g
  have g:=a8.old g
  have g:a1.get id=some k:=by rw[a2];exact g
  have g:a9.get id=some k:=by rw[a3];exact g
  have g:=((fun id h _=>b8 id h) id h_K (aA.lt_of_get g)).trans g
  exact g
 exact⟨a7,Ev.told_tmp aG aF Try.func48 zG (by kernel_rfl) Qz (fun B=>lQ (gP 72 Va (gS _))) (fun _ _=>rfl) a6 (hk (bP (by rw[<-c9,<-d0];kernel_rfl) Nat.one_ne_zero) (hk (lC bV g5 rfl) (hk (lC bV g5 rfl) (hk (lC bV g5 rfl) (hk (aJ rfl e2 e0 c8) (hk (lC jU c1 rfl) (hk (dY b0.1 b0.2) (hk (fF (bG (a:=⟨K,0+(dM (n:Int) a.f a.t a.m:Int).toNat*1,none⟩) bV c2 d7)) (hk (bF (by rw[a4];rfl)) (hk (bF (by rw[a4];rfl)) (hk (bF (by rw[a4];rfl)) (hk (bF (by rw[a4];rfl)) (hk (bF (by rw[a4];rfl)) (hk (bF (by rw[a4];rfl)) (hk (bF (by rw[a4];rfl)) (hk (bF (by rw[a4];rfl)) (hk (bF (by rw[a4];rfl)) (hk (bF (by rw[a4];rfl)) (hk (eD (by simp)) (hk (lC jU d3 rfl) (hk (dY b0.1 b0.2) (hk (dA q46) hn)))))))))))))))))))))),c7,b6,d5,d9⟩
theorem Pl(B C K n:Nat)(cur:List Int)(a:A7)(num:Int)(y:List E4)(z:Int){M M0:aA}(hM:aB M)(X0:Ext M0 M)(gC:M.get C=some ⟨[i64 n,aC K 0 (n*n*5) (n*n*5+1),.func (.func 47) ⟨[pt B 0]⟩ ⟨[]⟩],73,3,0,true⟩)(gK:M.get K=some ⟨cur.map i64,3,1,0,true⟩)(nK:M0.next<=K)(dCK:C≠K)(hY:(Ip 53) y (pt B 0) (cK [(K,K+1)] M))(g3:cur.length=n*n*5)(b5:n<=60/\(0<=a.f/\a.f<(n:Int))/\(0<=a.t/\a.t<(n:Int))/\(0<=a.m/\a.m<5))(hz:z≠ -1->0<=z/\z<(y.length:Int))(a5:(z==(-1:Int))=false): (∀(cc1:(decide ((eB y z)<=a.c))=true)(hi0:0<=(dM (n:Int) a.f a.t a.m:Int)/\(dM (n:Int) a.f a.t a.m:Int)<(n*n*5))(hc1:(cur.map i64)[0+(dM (n:Int) a.f a.t a.m:Int).toNat*1]?=some (i64 z)),∃M',Ev Try.prog [] 48 [pt C 0,.agg ⟨(bL a)⟩,i64 num] M (.bool false) M'/\Ext M0 M'/\aB M'/\M'.get K=some ⟨cur.map i64,3,1,0,true⟩/\(∀id k,M.get id=some k->id≠K->M'.get id=some k))/\(∀(cc1:(decide ((eB y z)<=a.c))=false)(hi0:0<=(dM (n:Int) a.f a.t a.m:Int)/\(dM (n:Int) a.f a.t a.m:Int)<(n*n*5))(hc1:(cur.map i64)[0+(dM (n:Int) a.f a.t a.m:Int).toNat*1]?=some (i64 z))(hof2:0+(dM (n:Int) a.f a.t a.m:Int).toNat*1+1<=(cur.map i64).length),∃M',Ev Try.prog [] 48 [pt C 0,.agg ⟨(bL a)⟩,i64 num] M (.bool true) M'/\Ext M0 M'/\aB M'/\M'.get K=some ⟨splice (cur.map i64) (0+(dM (n:Int) a.f a.t a.m:Int).toNat*1) [i64 num],3,1,0,true⟩/\(∀id k,M.get id=some k->id≠K->M'.get id=some k)):=by
 obtain⟨b1,M2,c3,e3,g5,E6,g2⟩:=bE hM ⟨(bL a),42,7,0,true⟩
 have F8:=jH (R:=(Ip 53)) hY c3 E6
 have g9:=E6.old gC
 have e4:=E6.old gK
 have f7:=X0.trans E6
 obtain⟨Rg,g7,a0,f0,e8,e2,a9,d1,f4⟩:=aM (x:=((n,cur),a.f,a.t,a.m)) g2 Ge (⟨⟨_,_,_,_,rfl,⟨C,K,n*n*5+1,.func (.func 47) ⟨[pt B 0]⟩ ⟨[]⟩,rfl,(by rw[g3];exact g9),e4⟩,rfl,rfl,rfl⟩,b5⟩)
 have f5:=iM (R:=(Ip 53)) F8 a9
 have c5:=a9.old g9
 have c6:=a9.old e4
 have e5:=a9.old g5
 have c4:Rg=i64 (dM (n:Int) a.f a.t a.m):=f4
 subst c4
 have b0:=f7.trans a9
 obtain⟨b7,a3⟩:=Kz a0 a0 []
 have e1:=Ow a3 b0
 have c0:b7.log= []:=by rw[a3]
 have d2:=Lg a3 d1
 have c7:=cG a3 c5
 have e6:=cG a3 c6
 have a6:=aA.lt_of_get e5
 have e7:=cG a3 e5
 have f6:=gI (R:=(Ip 53)) (M':=b7) f5 (fun id b h=>by rw[a3];exact h)
 obtain⟨f2,g8,a1,f1,e9,c1,a8,b9,e0⟩:=aM (x:=(y,z)) d2 con47 (⟨⟨_,_,rfl,eO (R:=(Ip 53)) f6,rfl⟩,hz (by intro e;rw[e] at a5;cases a5)⟩)
 refine⟨?_,?_⟩
 ·intro cc1 hi0 hc1
  have c8:=a8.old e6
  have c9:=a8.old e7
  have b3:f2=i64 (eB y z):=e0
  subst b3
  have b6:a1.log= []:=by rw[<-c1];exact c0
  have b2:=e1.trans a8
  obtain⟨a7,a2⟩: ∃m:aA,m=(aA.mk a1.blks a1.next a1.hide (a1.log++a0.log)):=⟨_,rfl⟩
  have c2:Ext M0 a7:=by rw[a2];exact Ext.join (b0) (b2)
  have b4:aB a7:=by rw[a2];exact b9
  have d0:=cG a2 c8
  have a4:oT Try.prog [] 60 Try.f48 Wn [pt C 0,.agg ⟨(bL a)⟩,i64 num] M [bK 1 (pt b1 0) M2,aR 9 (i64 a.f),aR 13 (i64 a.t),aR 17 (i64 a.m),bK 19 (i64 (dM (n:Int) a.f a.t a.m)) a0,aR 29 (aC K 0 (n*n*5) (n*n*5+1)),aP 33,aR 35 (i64 z),aP 44,aP 46,aP 48,aP 50,aR 51 (.func (.func 47) ⟨[pt B 0]⟩ ⟨[]⟩),aP 52,aP 54,bK 55 (i64 (eB y z)) a1,aP 56,aP 58,aR 59 (i64 a.c),aP 60,aP 63,aP 64] 6=some (.ret,some (.bool false),aA.mk a1.blks a1.next a0.hide (a1.log++a0.log),[.eq (eL Try.prog 42 (.agg ⟨(bL a)⟩) M) (1,.val (pt b1 0),M2),qL 3 b1 0 M2 (i64 a.f),qL 3 b1 1 M2 (i64 a.t),qL 3 b1 2 M2 (i64 a.m),qC 72 [pt C 0,i64 a.f,i64 a.t,i64 a.m] M2 (i64 (dM (n:Int) a.f a.t a.m)) a0,qL 22 C 1 a0 (aC K 0 (n*n*5) (n*n*5+1)),.q (.inb (dM (n:Int) a.f a.t a.m) (n*n*5)) (eT true),qL 3 K (0+(dM (n:Int) a.f a.t a.m:Int).toNat*1) a0 (i64 z),qT (!(z==(-1:Int))),qT (!(z==(-1:Int))),qT (!(z==(-1:Int))),qT (!(z==(-1:Int))),qL 70 C 2 (aA.mk a0.blks a0.next a0.hide []) (.func (.func 47) ⟨[pt B 0]⟩ ⟨[]⟩),qT (!(z==(-1:Int))),qT (!(z==(-1:Int))),qC 47 [pt B 0,i64 z] (aA.mk a0.blks a0.next a0.hide []) (i64 (eB y z)) a1,qT (!(z==(-1:Int))),qT (!(z==(-1:Int))),qL 3 b1 3 (aA.mk a1.blks a1.next (aV 519 [⟨8,1,a0.next,a1.next⟩,⟨6,1,a0.next,a0.next⟩]++a0.hide) a1.log) (i64 a.c),qT (Nat.blt b1 a0.next),qT (!(z==(-1:Int))),qT (!(z==(-1:Int))),qT (cY [b1] a1.log),qT (decide ((eB y z)<=a.c))]):=by kernel_rfl
  have d6:aA.mk a0.blks a0.next a0.hide []=b7:=a3.symm
  have d7:=Jd 519 [⟨8,1,a0.next,a1.next⟩,⟨6,1,a0.next,a0.next⟩] ((b0).hide.trans (b2).hide.symm)
  have d8:=Ew (L:=(a1.log++a0.log)) ((b0).hide.trans (b2).hide.symm)
  have d9:(aA.mk a1.blks a1.next a1.hide (a1.log++a0.log))=a7:=a2.symm
  try rw[d6] at a4
  try rw[d7] at a4
  try rw[d8] at a4
  try rw[d9] at a4
  have d4: ∀id k,M.get id=some k->id≠K->a7.get id=some k:=fun id k g h_K=>by
   have g:=E6.old g
   have g:=a9.old g
   have g:b7.get id=some k:=by rw[a3];exact g
   have g:=a8.old g
   have g:a7.get id=some k:=by rw[a2];exact g
   exact g
  exact⟨a7,Ev.told_tmp aG aF Try.func48 zG (by kernel_rfl) Qz (fun B=>lQ (gP 47 Q47 (gP 72 Va (gS _)))) (fun _ _=>rfl) a4 (hk (bP (by rw[<-c3,<-e3];kernel_rfl) Nat.one_ne_zero) (hk (lC bV g5 rfl) (hk (lC bV g5 rfl) (hk (lC bV g5 rfl) (hk (aJ rfl f0 e8 e2) (hk (lC jU c5 rfl) (hk (dY hi0.1 hi0.2) (hk (fF (bG (a:=⟨K,0+(dM (n:Int) a.f a.t a.m:Int).toNat*1,none⟩) bV c6 hc1)) (hk (bT (by rw[a5];rfl)) (hk (bT (by rw[a5];rfl)) (hk (bT (by rw[a5];rfl)) (hk (bT (by rw[a5];rfl)) (hk (lC Vj c7 rfl) (hk (bT (by rw[a5];rfl)) (hk (bT (by rw[a5];rfl)) (hk (aJ rfl f1 e9 c1) (hk (bT (by rw[a5];rfl)) (hk (bT (by rw[a5];rfl)) (hk (lC bV (cB.2 ⟨dI (by simp;omega),c9⟩) rfl) (hk (mB a6) (hk (bT (by rw[a5];rfl)) (hk (bT (by rw[a5];rfl)) (hk (eD (by rw[b6];simp<;>omega)) (hk (bT cc1) hn)))))))))))))))))))))))),c2,b4,d0,d4⟩
 ·intro cc1 hi0 hc1 hof2
  have f9:=a8.old c7
  have c8:=a8.old e6
  have c9:=a8.old e7
  have b3:f2=i64 (eB y z):=e0
  subst b3
  have b6:a1.log= []:=by rw[<-c1];exact c0
  have b2:=e1.trans a8
  obtain⟨a7,a2⟩: ∃m:aA,m=(aA.mk a1.blks a1.next a1.hide (a1.log++a0.log)):=⟨_,rfl⟩
  have c2:Ext M0 a7:=by rw[a2];exact Ext.join (b0) (b2)
  have b4:aB a7:=by rw[a2];exact b9
  have g0:=cG a2 f9
  have d0:=cG a2 c8
  obtain⟨b8,g6,g1,d5,f8,d3,g4⟩:=aZ (o:=0+(dM (n:Int) a.f a.t a.m:Int).toNat*1) (v:=(i64 num)) (new:=splice (cur.map i64) (0+(dM (n:Int) a.f a.t a.m:Int).toNat*1) [i64 num]) c2 nK b4 Jc d0 rfl rfl (Nat.zero_le _) hof2 rfl
  have a4:oT Try.prog [] 60 Try.f48 Wn [pt C 0,.agg ⟨(bL a)⟩,i64 num] M [bK 1 (pt b1 0) M2,aR 9 (i64 a.f),aR 13 (i64 a.t),aR 17 (i64 a.m),bK 19 (i64 (dM (n:Int) a.f a.t a.m)) a0,aR 29 (aC K 0 (n*n*5) (n*n*5+1)),aP 33,aR 35 (i64 z),aP 44,aP 46,aP 48,aP 50,aR 51 (.func (.func 47) ⟨[pt B 0]⟩ ⟨[]⟩),aP 52,aP 54,bK 55 (i64 (eB y z)) a1,aP 56,aP 58,aR 59 (i64 a.c),aP 60,aP 63,aO 64,aR 72 (aC K 0 (n*n*5) (n*n*5+1)),aP 78,jJ 80 b8] 6=some (.ret,some (.bool true),b8,[.eq (eL Try.prog 42 (.agg ⟨(bL a)⟩) M) (1,.val (pt b1 0),M2),qL 3 b1 0 M2 (i64 a.f),qL 3 b1 1 M2 (i64 a.t),qL 3 b1 2 M2 (i64 a.m),qC 72 [pt C 0,i64 a.f,i64 a.t,i64 a.m] M2 (i64 (dM (n:Int) a.f a.t a.m)) a0,qL 22 C 1 a0 (aC K 0 (n*n*5) (n*n*5+1)),.q (.inb (dM (n:Int) a.f a.t a.m) (n*n*5)) (eT true),qL 3 K (0+(dM (n:Int) a.f a.t a.m:Int).toNat*1) a0 (i64 z),qT (!(z==(-1:Int))),qT (!(z==(-1:Int))),qT (!(z==(-1:Int))),qT (!(z==(-1:Int))),qL 70 C 2 (aA.mk a0.blks a0.next a0.hide []) (.func (.func 47) ⟨[pt B 0]⟩ ⟨[]⟩),qT (!(z==(-1:Int))),qT (!(z==(-1:Int))),qC 47 [pt B 0,i64 z] (aA.mk a0.blks a0.next a0.hide []) (i64 (eB y z)) a1,qT (!(z==(-1:Int))),qT (!(z==(-1:Int))),qL 3 b1 3 (aA.mk a1.blks a1.next (aV 519 [⟨8,1,a0.next,a1.next⟩,⟨6,1,a0.next,a0.next⟩]++a0.hide) a1.log) (i64 a.c),qT (Nat.blt b1 a0.next),qT (!(z==(-1:Int))),qT (!(z==(-1:Int))),qT (cY [b1] a1.log),qF (decide ((eB y z)<=a.c)),qL 22 C 1 (aA.mk a1.blks a1.next a0.hide (a1.log++a0.log)) (aC K 0 (n*n*5) (n*n*5+1)),.q (.inb (dM (n:Int) a.f a.t a.m) (n*n*5)) (eT true),qS 3 K (0+(dM (n:Int) a.f a.t a.m:Int).toNat*1) (i64 num) (aA.mk a1.blks a1.next a0.hide (a1.log++a0.log)) b8]):=by kernel_rfl
  have d6:aA.mk a0.blks a0.next a0.hide []=b7:=a3.symm
  have d7:=Jd 519 [⟨8,1,a0.next,a1.next⟩,⟨6,1,a0.next,a0.next⟩] ((b0).hide.trans (b2).hide.symm)
  have d8:=Ew (L:=(a1.log++a0.log)) ((b0).hide.trans (b2).hide.symm)
  have d9:(aA.mk a1.blks a1.next a1.hide (a1.log++a0.log))=a7:=a2.symm
  try rw[d6] at a4
  try rw[d7] at a4
  try rw[d8] at a4
  try rw[d9] at a4
  have d4: ∀id k,M.get id=some k->id≠K->b8.get id=some k:=fun id k g h_K=>by
   have g:=E6.old g
   have g:=a9.old g
   have g:b7.get id=some k:=by rw[a3];exact g
   have g:=a8.old g
   have g:a7.get id=some k:=by rw[a2];exact g
   have g:=((fun id h _=>d5 id h) id h_K (aA.lt_of_get g)).trans g
   exact g
  exact⟨b8,Ev.told_tmp aG aF Try.func48 zG (by kernel_rfl) Qz (fun B=>lQ (gP 47 Q47 (gP 72 Va (gS _)))) (fun _ _=>rfl) a4 (hk (bP (by rw[<-c3,<-e3];kernel_rfl) Nat.one_ne_zero) (hk (lC bV g5 rfl) (hk (lC bV g5 rfl) (hk (lC bV g5 rfl) (hk (aJ rfl f0 e8 e2) (hk (lC jU c5 rfl) (hk (dY hi0.1 hi0.2) (hk (fF (bG (a:=⟨K,0+(dM (n:Int) a.f a.t a.m:Int).toNat*1,none⟩) bV c6 hc1)) (hk (bT (by rw[a5];rfl)) (hk (bT (by rw[a5];rfl)) (hk (bT (by rw[a5];rfl)) (hk (bT (by rw[a5];rfl)) (hk (lC Vj c7 rfl) (hk (bT (by rw[a5];rfl)) (hk (bT (by rw[a5];rfl)) (hk (aJ rfl f1 e9 c1) (hk (bT (by rw[a5];rfl)) (hk (bT (by rw[a5];rfl)) (hk (lC bV (cB.2 ⟨dI (by simp;omega),c9⟩) rfl) (hk (mB a6) (hk (bT (by rw[a5];rfl)) (hk (bT (by rw[a5];rfl)) (hk (eD (by rw[b6];simp<;>omega)) (hk (bF cc1) (hk (lC jU g0 rfl) (hk (dY hi0.1 hi0.2) (hk (dA g6) hn))))))))))))))))))))))))))),f8,d3,g1,d4⟩
theorem Yn{x:LX (List E4)}{lv:List Value}{M:aA}(hM:aB M)(h:(Qs 73 47 eB (Ip 53) (fun y i=>0<=i/\i<(y.length:Int))).A x lv M)(a8:x.K<=M.next): ∃v M',TO Try.prog 48 (Qs 73 47 eB (Ip 53) (fun y i=>0<=i/\i<(y.length:Int))) lv M v M':=by
 have hA:=h
 obtain⟨C,K,B,n,cur,y,a,num⟩:=x
 obtain⟨rfl,gC,gK,hY,a3,hn,a1,hf,ht,hm,b0⟩:=h
 simp only at gC gK hY a3 hn a1 hf ht hm b0 a8
 have X0:=Ext.cut a8
 have nK:(cut K M).next<=K:=Nat.le_refl _
 have hp:=iP hf ht hm
 have a0:n<=60/\(0<=a.f/\a.f<(n:Int))/\(0<=a.t/\a.t<(n:Int))/\(0<=a.m/\a.m<5):=⟨hn,hf,ht,hm⟩
 have hz:aW cur (gJ n a)≠ -1->0<=aW cur (gJ n a)/\aW cur (gJ n a)<(y.length:Int):=fun e=>b0.resolve_left e
 have a7:0<=((dM (n:Int) (a.f) (a.t) (a.m)):Int)/\((dM (n:Int) (a.f) (a.t) (a.m)):Int)<(n*n*5):=by refine⟨hp.1,?_⟩;have:=hp.2;push_cast at this⊢;exact this
 have hk:gJ n a<cur.length:=by rw[a1];unfold gJ;omega
 have a5:0+((dM (n:Int) (a.f) (a.t) (a.m)):Int).toNat*1=gJ n a:=by unfold gJ;omega
 have a6:(cur.map i64)[0+((dM (n:Int) (a.f) (a.t) (a.m)):Int).toNat*1]?=some (i64 (aW cur (gJ n a))):=by rw[a5,List.getElem?_map,gH hk];rfl
 have a9:0+((dM (n:Int) (a.f) (a.t) (a.m)):Int).toNat*1+1<=(cur.map i64).length:=by rw[a5,List.length_map];omega
 have a2:splice (cur.map i64) (0+((dM (n:Int) (a.f) (a.t) (a.m)):Int).toNat*1) [i64 num]=(cur.set (gJ n a) num).map i64:=by rw[a5,fN _ _ _ (by simpa using hk),List.map_set]
 have a4: ∀{bv:Bool} {cu:List Int} {M':aA},Ev Try.prog [] 48 [pt C 0,.agg ⟨bL a⟩,i64 num] M (.bool bv) M'->Ext (cut K M) M'->M'.get K=some ⟨cu.map i64,3,1,0,true⟩->(∀id k,M.get id=some k->id≠K->M'.get id=some k)->bv=dK (eB y) (aW cur (gJ n a)) a.c->cu=iO eB ⟨C,K,B,n,cur,y,a,num⟩-> ∃v M',TO Try.prog 48 (Qs 73 47 eB (Ip 53) (fun y i=>0<=i/\i<(y.length:Int))) [pt C 0,.agg ⟨bL a⟩,i64 num] M v M':=
  fun h1 h2 h3 h4 e1 e2=>⟨_,_,h1,⟨C,K,B,n,cur,y,a,num⟩,hA,a8,h2,h4,by rw[e1],by rw[<-e2];exact h3⟩
 cases c0:aW cur (gJ n a)==(-1:Int) with
 |true=>
  obtain⟨M',h1,h2,h3,h4,h5⟩:=w48E0 B C K n cur a num y (aW cur (gJ n a)) hM X0 gC gK nK a3 hY a1 a0 hz c0 a7 a6 a9
  rw[a2] at h4
  exact a4 h1 h2 h4 h5 (by simp [dK,c0]) (by simp [iO,dK,c0])
 |false=>
  cases c1:decide (eB y (aW cur (gJ n a))<=a.c) with
  |true=>
   obtain⟨M',h1,h2,h3,h4,h5⟩:=(Pl B C K n cur a num y (aW cur (gJ n a)) hM X0 gC gK nK a3 hY a1 a0 hz c0).1 c1 a7 a6
   have e:dK (eB y) (aW cur (gJ n a)) a.c=false:=by simp only [dK,c0,Bool.false_or];exact decide_eq_false (by have:=of_decide_eq_true c1;omega)
   exact a4 h1 h2 h4 h5 e.symm (by simp [iO,e])
  |false=>
   obtain⟨M',h1,h2,h3,h4,h5⟩:=(Pl B C K n cur a num y (aW cur (gJ n a)) hM X0 gC gK nK a3 hY a1 a0 hz c0).2 c1 a7 a6 a9
   rw[a2] at h4
   have e:dK (eB y) (aW cur (gJ n a)) a.c=true:=by simp only [dK,c0,Bool.false_or];exact decide_eq_true (by have:=of_decide_eq_false c1;omega)
   exact a4 h1 h2 h4 h5 e.symm (by simp [iO,e])
theorem nn5{n:Nat}(hn:1<=n/\n<=24):IntKind.wrap .i64 (IntKind.wrap .i64 ((n:Int)*(n:Int))*(5:Int))=((n*n*5:Nat):Int):=by
 have h1:(0:Int)<=(n:Int)*(n:Int):=Int.mul_nonneg (by omega) (by omega)
 have h2:(n:Int)*(n:Int)<=24*24:=Int.mul_le_mul (by omega) (by omega) (by omega) (by omega)
 rw[Go.Am.eK (i:=(n:Int)*(n:Int)) (by omega) (by omega),Go.Am.eK (by omega) (by omega)]
 push_cast;rfl
theorem rK45:Try.f45.results= #[.tmp 4]:=by kernel_rfl
theorem hw45A(n B:Nat){M:aA}(hM:aB M)(a6:1<=n/\n<=24): ∃v_ M',Ev Try.prog [] 45 [i64 n,.func (.func 46) ⟨[pt B 0]⟩ ⟨[]⟩] M v_ M'/\Ext M M'/\aB M'/\ ∃C K,v_=pt C 0/\M.next<=C/\M.next<=K/\C≠K/\M'.get C=some ⟨[i64 n,aC K 0 (n*n*5) (n*n*5+1),.func (.func 46) ⟨[pt B 0]⟩ ⟨[]⟩],73,3,0,true⟩/\M'.get K=some ⟨(kJ n).map i64,3,1,0,true⟩:=by
 obtain⟨b1,M2,c2,c3,g5,E6,c6⟩:=bE hM ⟨[i64 (-1)],3,1,0,true⟩
 have X9:=(Ext.refl M).trans E6
 have a4:(IntKind.wrap .i64 ((IntKind.wrap .i64 ((n:Int)*(n:Int)))*(5:Int)))=(((n*n*5):Nat):Int):=nn5 a6
 obtain⟨d0,c9,a8,c8,c7,c1,b8,b3,b9⟩:=aM (x:=((),n*n*5)) c6 Sf (⟨⟨_,_,rfl,⟨_,rfl,g5⟩,congrArg i64 a4⟩,⟨n,a6,.inr rfl⟩⟩)
 obtain⟨a3,b2,a2,a5⟩:=b9
 subst b2
 have a2:=Nat.le_trans (X9).next a2
 have b7:=X9.trans b8
 obtain⟨a7,a9,a1,b0,c4,b6,b4⟩:=bE b3 ⟨[i64 (n:Int),aC a3 0 (n*n*5) (n*n*5+1),.func (.func 46) ⟨[pt B 0]⟩ ⟨[]⟩],73,3,0,true⟩
 have b5:=mG a1 b7
 have a0:=fL a5 a1
 have c5:=b6.old a5
 have c0:=b7.trans b6
 exact⟨pt a7 0,a9,Ev.told_tmp (tb:=[]) (n:=60) (F:=[bK 3 (aC b1 0 1 2) M2,bK 13 (aC a3 0 (n*n*5) (n*n*5+1)) a8,bK 25 (pt a7 0) a9]) aG aF Try.func45 Tz (by kernel_rfl) rK45 (fun B=>lQ (gP 44 Q44 (gS _))) (fun _ _=>rfl) (by kernel_rfl) (hq (.eq (bH Try.prog 22 1 [(0,(i64 (-1)))] M) (1,.val (aC b1 0 1 2),M2)) (bP (by rw[<-c2,<-c3];kernel_rfl) Nat.one_ne_zero) (hq (qC 44 [aC b1 0 1 2,i64 (IntKind.wrap .i64 ((IntKind.wrap .i64 ((n:Int)*(n:Int)))*(5:Int)))] M2 (aC a3 0 (n*n*5) (n*n*5+1)) a8) (aJ rfl c8 c7 c1) (hq (.eq (eL Try.prog 73 (.agg ⟨[i64 (n:Int),aC a3 0 (n*n*5) (n*n*5+1),.func (.func 46) ⟨[pt B 0]⟩ ⟨[]⟩]⟩) a8) (1,.val (pt a7 0),a9)) (bP (by rw[<-a1,<-b0];kernel_rfl) Nat.one_ne_zero) hn))),c0,b4,⟨a7,a3,rfl,b5,a2,Ne.symm a0,c4,by unfold kJ;rw[List.map_replicate];exact c5⟩⟩
theorem hw45E(n B:Nat){M:aA}(hM:aB M)(a6:1<=n/\n<=24): ∃v_ M',Ev Try.prog [] 45 [i64 n,.func (.func 47) ⟨[pt B 0]⟩ ⟨[]⟩] M v_ M'/\Ext M M'/\aB M'/\ ∃C K,v_=pt C 0/\M.next<=C/\M.next<=K/\C≠K/\M'.get C=some ⟨[i64 n,aC K 0 (n*n*5) (n*n*5+1),.func (.func 47) ⟨[pt B 0]⟩ ⟨[]⟩],73,3,0,true⟩/\M'.get K=some ⟨(kJ n).map i64,3,1,0,true⟩:=by
 obtain⟨b1,M2,c2,c3,g5,E6,c6⟩:=bE hM ⟨[i64 (-1)],3,1,0,true⟩
 have X9:=(Ext.refl M).trans E6
 have a4:(IntKind.wrap .i64 ((IntKind.wrap .i64 ((n:Int)*(n:Int)))*(5:Int)))=(((n*n*5):Nat):Int):=nn5 a6
 obtain⟨d0,c9,a8,c8,c7,c1,b8,b3,b9⟩:=aM (x:=((),n*n*5)) c6 Sf (⟨⟨_,_,rfl,⟨_,rfl,g5⟩,congrArg i64 a4⟩,⟨n,a6,.inr rfl⟩⟩)
 obtain⟨a3,b2,a2,a5⟩:=b9
 subst b2
 have a2:=Nat.le_trans (X9).next a2
 have b7:=X9.trans b8
 obtain⟨a7,a9,a1,b0,c4,b6,b4⟩:=bE b3 ⟨[i64 (n:Int),aC a3 0 (n*n*5) (n*n*5+1),.func (.func 47) ⟨[pt B 0]⟩ ⟨[]⟩],73,3,0,true⟩
 have b5:=mG a1 b7
 have a0:=fL a5 a1
 have c5:=b6.old a5
 have c0:=b7.trans b6
 exact⟨pt a7 0,a9,Ev.told_tmp (tb:=[]) (n:=60) (F:=[bK 3 (aC b1 0 1 2) M2,bK 13 (aC a3 0 (n*n*5) (n*n*5+1)) a8,bK 25 (pt a7 0) a9]) aG aF Try.func45 Tz (by kernel_rfl) rK45 (fun B=>lQ (gP 44 Q44 (gS _))) (fun _ _=>rfl) (by kernel_rfl) (hq (.eq (bH Try.prog 22 1 [(0,(i64 (-1)))] M) (1,.val (aC b1 0 1 2),M2)) (bP (by rw[<-c2,<-c3];kernel_rfl) Nat.one_ne_zero) (hq (qC 44 [aC b1 0 1 2,i64 (IntKind.wrap .i64 ((IntKind.wrap .i64 ((n:Int)*(n:Int)))*(5:Int)))] M2 (aC a3 0 (n*n*5) (n*n*5+1)) a8) (aJ rfl c8 c7 c1) (hq (.eq (eL Try.prog 73 (.agg ⟨[i64 (n:Int),aC a3 0 (n*n*5) (n*n*5+1),.func (.func 47) ⟨[pt B 0]⟩ ⟨[]⟩]⟩) a8) (1,.val (pt a7 0),a9)) (bP (by rw[<-a1,<-b0];kernel_rfl) Nat.one_ne_zero) hn))),c0,b4,⟨a7,a3,rfl,b5,a2,Ne.symm a0,c4,by unfold kJ;rw[List.map_replicate];exact c5⟩⟩
def aAd(fc:FuncId)(x:Nat×Nat)(nx:Nat)(v:Value)(M:aA):Prop:= ∃C K,v=pt C 0/\nx<=C/\nx<=K/\C≠K/\M.get C=some ⟨[i64 (x.1:Int),aC K 0 (x.1*x.1*5) (x.1*x.1*5+1),.func (.func fc) ⟨[pt x.2 0]⟩ ⟨[]⟩],73,3,0,true⟩/\M.get K=some ⟨(kJ x.1).map i64,3,1,0,true⟩
instance(fc:FuncId):AQ (aAd fc):=⟨fun hE ⟨C,K,h1,h2,h3,h4,h5,h6⟩=>⟨C,K,h1,h2,h3,h4,hE _ _ h5,hE _ _ h6⟩⟩
def pCl(fc:FuncId)(B:Nat)(v:Value)(_:aA):Prop:=v= .func (.func fc) ⟨[pt B 0]⟩ ⟨[]⟩
instance(fc:FuncId):AP (pCl fc):=⟨fun h k=>by unfold pCl at h k;rw[h] at k;simpa [pt] using k,fun _ h=>h⟩
abbrev Q45A:=FC (hZ (mU pN (pCl 46)) fun x=>1<=x.1/\x.1<=24) (aAd 46) id
theorem Yl{x:Nat×Nat}{lv:List Value}{M:aA}(hM:aB M)(h:(hZ (mU pN (pCl 46)) fun x=>1<=x.1/\x.1<=24) x lv M): ∃v M',lM Try.prog [] 45 Q45A lv M v M':=by
 refine FC.con h ?_
 obtain⟨⟨g0,g1,rfl,k0,k1⟩,hn⟩:=h
 obtain⟨n,B⟩:=x
 obtain rfl:=k0
 obtain rfl:=k1
 obtain⟨v,M',h1,h2,_,h3⟩:=hw45A n B hM hn
 exact⟨v,M',h1,h2,h3⟩
abbrev Q45E:=FC (hZ (mU pN (pCl 47)) fun x=>1<=x.1/\x.1<=24) (aAd 47) id
theorem Ym{x:Nat×Nat}{lv:List Value}{M:aA}(hM:aB M)(h:(hZ (mU pN (pCl 47)) fun x=>1<=x.1/\x.1<=24) x lv M): ∃v M',lM Try.prog [] 45 Q45E lv M v M':=by
 refine FC.con h ?_
 obtain⟨⟨g0,g1,rfl,k0,k1⟩,hn⟩:=h
 obtain⟨n,B⟩:=x
 obtain rfl:=k0
 obtain rfl:=k1
 obtain⟨v,M',h1,h2,_,h3⟩:=hw45E n B hM hn
 exact⟨v,M',h1,h2,h3⟩
theorem Qa:(Try.prog.underlying 51).map dR=some false:=by kernel_rfl
theorem dS51:(Try.prog.info? 51).map (·.size)=some 1:=by kernel_rfl
def pBr(x:Nat×List Int×List Bool)(v:Value)(M:aA):Prop:= ∃B C G cg c0 c1 c2 c3 c4 c5,v=pt B 0/\M.get B=some ⟨[c0,c1,c2,c3,c4,c5,pt C 0,aC G 0 x.1 cg],53,8,0,true⟩/\qM 73 (x.1,x.2.1) (pt C 0) M/\M.get G=some ⟨x.2.2.map .bool,4,1,0,true⟩
instance:AP pBr:=⟨fun{x y v M} ⟨B,C,G,cg,c0,c1,c2,c3,c4,c5,h1,h2,h3,h4⟩ ⟨B',C',G',cg',d0,d1,d2,d3,d4,d5,k1,k2,k3,k4⟩=>by
 rw[h1] at k1
 simp only [pt,Value.pointer.injEq,Option.some.injEq,Addr.mk.injEq,and_true] at k1
 subst k1
 rw[h2] at k2
 simp only [Option.some.injEq,aQ.mk.injEq,List.cons.injEq,Value.slice.injEq,Addr.mk.injEq,and_true,true_and,pt,Value.pointer.injEq] at k2
 obtain⟨_,_,_,_,_,_,rfl,⟨rfl,_⟩⟩:=k2
 rw[h4] at k4
 simp only [Option.some.injEq,aQ.mk.injEq,and_true] at k4
 have e1:x.2.2=y.2.2:=(List.map_inj_right (fun x y h=>by simpa using h)).1 k4
 have e2:=AP.uniq (R:=qM 73) h3 k3
 obtain⟨a,b,c⟩:=x;obtain⟨a',b',c'⟩:=y
 simp_all,fun hE ⟨B,C,G,cg,c0,c1,c2,c3,c4,c5,h1,h2,h3,h4⟩=>⟨B,C,G,cg,c0,c1,c2,c3,c4,c5,h1,hE _ _ h2,AP.ext (R:=qM 73) hE h3,hE _ _ h4⟩⟩
def pLook(fl:FuncId)(_:Unit)(v:Value)(_:aA):Prop:=v= .func (.func fl) ⟨[]⟩ ⟨[]⟩
instance(fl:FuncId):AP (pLook fl):=⟨fun _ _=>rfl,fun _ h=>h⟩
theorem riOn(bB C K G n ck cg:Nat)(c0 c1 c2 c3 c4 c5 cl:Value)(cur:List Int)(gone:List Bool)(v u m:Nat)(S:Value)(l:List Int){M M0:aA}(hM:aB M)(X0:Ext M0 M)(a0:M0.get bB=some ⟨[c0,c1,c2,c3,c4,c5,pt C 0,aC G 0 n cg],53,8,0,true⟩)(a7:M0.get C=some ⟨[i64 n,aC K 0 cur.length ck,cl],73,3,0,true⟩)(a8:M0.get K=some ⟨cur.map i64,3,1,0,true⟩)(gG0:M0.get G=some ⟨gone.map Value.bool,4,1,0,true⟩)(a1:n<=60)(b1:cur.length=n*n*5)(hv:v<n)(hgl:gone.length=n)(hu:u<n)(hA:cT 3 1 M0 [bB,C,K,G] l.length (l.map i64) S M)(hl30:l.length<1073741824)(a2:(decide ((m:Int)<(5:Int)))=true)(a5:((aW cur (bJ n .out v u m))==(-1:Int))=true): ∃T1 M',Rd Try.prog [] (q55.loopAt 2) Try.f55.ntmps (fr [(0,(pt bB 0)),(1,(.func (.func 56) ⟨[]⟩ ⟨[]⟩)),(2,(i64 (v:Int))),(7,S),(8,(i64 (u:Int))),(15,(aC G 0 n cg)),(16,(i64 (n:Int))),(17,(i64 (u:Int))),(23,(i64 (m:Int)))]) M .normal T1 M'/\ [0,1,2,7,8,15,16,17,23].map T1.get= [some (pt bB 0),some (.func (.func 56) ⟨[]⟩ ⟨[]⟩),some (i64 (v:Int)),some S,some (i64 (u:Int)),some (aC G 0 n cg),some (i64 (n:Int)),some (i64 (u:Int)),some (i64 (IntKind.wrap .i64 ((m:Int)+(1:Int))))]/\Ext M0 M'/\aB M'/\cT 3 1 M0 [bB,C,K,G] l.length (l.map i64) S M':=by
 have a9:=X0.old a0
 have gC:=X0.old a7
 have gK:=X0.old a8
 obtain⟨w1,N2,M3,p4,l5,e6,E7,b0,F9⟩:=aM (x:=((n,cur),v,u,m)) hM Xk (⟨⟨_,_,_,_,rfl,⟨C,K,_,_,rfl,gC,gK⟩,rfl,rfl,rfl⟩,a1,b1,hv,hu,(by have:=of_decide_eq_true a2;show m<5;omega)⟩)
 have a3:=hA.ext E7
 have a6:w1=i64 (aW cur (bJ n .out v u m)):=F9
 subst a6
 have a4:=X0.trans E7
 obtain⟨T1,h1,h2⟩:=Rd.told (tb:=[]) (n:=60) (F:=[aP 2,aR 16 (pt C 0),bK 24 (i64 (aW cur (bJ n .out v u m))) M3,aO 31]) aG aF (fun B=>lQ (gP 56 Q56 (gS _))) (fun _ _=>rfl) (by kernel_rfl) (hk (bT a2) (hk (lO 6 Qa a9 rfl) (hq (qC 56 [pt C 0,i64 (v:Int),i64 (u:Int),i64 (m:Int)] M (i64 (aW cur (bJ n .out v u m))) M3) (aJ rfl p4 l5 e6) (hk (bF (x:=!((aW cur (bJ n .out v u m))==(-1:Int))) (by rw[a5];rfl)) hn))))
 exact⟨T1,M3,h1,h2,a4,b0,a3⟩
theorem riOa(bB C K G n ck cg:Nat)(c0 c1 c2 c3 c4 c5 cl:Value)(cur:List Int)(gone:List Bool)(v u m:Nat)(S:Value)(l:List Int){M M0:aA}(hM:aB M)(X0:Ext M0 M)(a9:M0.get bB=some ⟨[c0,c1,c2,c3,c4,c5,pt C 0,aC G 0 n cg],53,8,0,true⟩)(e3:M0.get C=some ⟨[i64 n,aC K 0 cur.length ck,cl],73,3,0,true⟩)(e5:M0.get K=some ⟨cur.map i64,3,1,0,true⟩)(e4:M0.get G=some ⟨gone.map Value.bool,4,1,0,true⟩)(b2:n<=60)(e8:cur.length=n*n*5)(hv:v<n)(hgl:gone.length=n)(hu:u<n)(hA:cT 3 1 M0 [bB,C,K,G] l.length (l.map i64) S M)(b3:l.length<1073741824)(b6:(decide ((m:Int)<(5:Int)))=true)(d7:((aW cur (bJ n .out v u m))==(-1:Int))=false): ∃T1 M' a1,Rd Try.prog [] (q55.loopAt 2) Try.f55.ntmps (fr [(0,(pt bB 0)),(1,(.func (.func 56) ⟨[]⟩ ⟨[]⟩)),(2,(i64 (v:Int))),(7,S),(8,(i64 (u:Int))),(15,(aC G 0 n cg)),(16,(i64 (n:Int))),(17,(i64 (u:Int))),(23,(i64 (m:Int)))]) M .normal T1 M'/\ [0,1,2,7,8,15,16,17,23].map T1.get= [some (pt bB 0),some (.func (.func 56) ⟨[]⟩ ⟨[]⟩),some (i64 (v:Int)),some a1,some (i64 (u:Int)),some (aC G 0 n cg),some (i64 (n:Int)),some (i64 (u:Int)),some (i64 (IntKind.wrap .i64 ((m:Int)+(1:Int))))]/\Ext M0 M'/\aB M'/\cT 3 1 M0 [bB,C,K,G] (l.length+1) (l.map i64++ [i64 (aW cur (bJ n .out v u m))]) a1 M':=by
 have d1:=X0.old a9
 have gC:=X0.old e3
 have gK:=X0.old e5
 have gG:=X0.old e4
 obtain⟨w1,N2,M3,p4,l5,e6,E7,e7,F9⟩:=aM (x:=((n,cur),v,u,m)) hM Xk (⟨⟨_,_,_,_,rfl,⟨C,K,_,_,rfl,gC,gK⟩,rfl,rfl,rfl⟩,b2,e8,hv,hu,(by have:=of_decide_eq_true b6;show m<5;omega)⟩)
 have d2:=hA.ext E7
 have c6:=E7.old d1
 have c7:=E7.old gC
 have c8:=E7.old gK
 have c9:=E7.old gG
 have d8:w1=i64 (aW cur (bJ n .out v u m)):=F9
 subst d8
 have b5:=X0.trans E7
 obtain⟨a6,a5,a0,a8,d0,a2,b0⟩:=bE e7 ⟨[i64 (aW cur (bJ n .out v u m))],3,1,0,true⟩
 have f1:=mG a0 b5
 have a7:=fL c6 a0
 have b7:=fL c7 a0
 have b9:=fL c8 a0
 have b8:=fL c9 a0
 have d3:=d2.new a0 a2
 have d9:=a2.old c6
 have e0:=a2.old c7
 have e1:=a2.old c8
 have e2:=a2.old c9
 have d5:=b5.trans a2
 obtain⟨a4,a1,a3,f2,d6,b1,d4,f0,e9⟩:=gW (P:=Try.prog) (sT:=22) (xT:=22) (y:=8) (c:=2) d3 d5 b0 (by intro x hx;simp only [List.mem_cons,List.not_mem_nil,or_false] at hx;rcases hx with rfl|rfl|rfl|rfl|rfl<;>first|exact aA.lt_of_get d0|exact aA.lt_of_get d9|exact aA.lt_of_get e0|exact aA.lt_of_get e1|exact aA.lt_of_get e2) (by kernel_rfl) (by kernel_rfl) (by kernel_rfl) (by kernel_rfl) (by decide) (by decide) rfl b3 d0 (o:=0) (new:= [i64 (aW cur (bJ n .out v u m))]) rfl rfl rfl
 have b4:oR Try.prog [] 60 Try.f55 (q55.loopAt 2) [(0,(pt bB 0)),(1,(.func (.func 56) ⟨[]⟩ ⟨[]⟩)),(2,(i64 (v:Int))),(7,S),(8,(i64 (u:Int))),(15,(aC G 0 n cg)),(16,(i64 (n:Int))),(17,(i64 (u:Int))),(23,(i64 (m:Int)))] M [aP 2,aR 16 (pt C 0),bK 24 (i64 (aW cur (bJ n .out v u m))) M3,aP 31,bK 37 (aC a6 0 1 2) a5,.at 39 ((bif a4 then 1 else 2),.val a1,a3)] [0,1,2,7,8,15,16,17,23]=some (.normal,[some (pt bB 0),some (.func (.func 56) ⟨[]⟩ ⟨[]⟩),some (i64 (v:Int)),some a1,some (i64 (u:Int)),some (aC G 0 n cg),some (i64 (n:Int)),some (i64 (u:Int)),some (i64 (IntKind.wrap .i64 ((m:Int)+(1:Int))))],a3,[qT (decide ((m:Int)<(5:Int))),qL 51 bB 6 M (pt C 0),qC 56 [pt C 0,i64 (v:Int),i64 (u:Int),i64 (m:Int)] M (i64 (aW cur (bJ n .out v u m))) M3,qT (!((aW cur (bJ n .out v u m))==(-1:Int))),.eq (bH Try.prog 22 1 [(0,(i64 (aW cur (bJ n .out v u m))))] M3) (1,.val (aC a6 0 1 2),a5),.q (.append [22,22] S (aC a6 0 1 2) a5) ((bif a4 then 1 else 2),.val a1,a3)]):=by cases a4<;>kernel_rfl
 obtain⟨T1,h1,h2⟩:=Rd.told aG aF (fun B=>lQ (gP 56 Q56 (gS _))) (fun _ _=>rfl) b4 (hk (bT b6) (hk (lC Qa d1 rfl) (hk (aJ rfl p4 l5 e6) (hk (bT (by rw[d7];rfl)) (hk (bP (by rw[<-a0,<-a8];kernel_rfl) Nat.one_ne_zero) (hk (kS f2 (by cases a4<;>simp)) hn))))))
 exact⟨T1,a3,a1,h1,h2,d6,b1,d4.less (by intro x hx;simp only [List.mem_cons,List.not_mem_nil,or_false] at hx⊢;omega)⟩
theorem riOx(bB G n cg v u m:Nat)(S:Value){M:aA}(a0:(decide ((m:Int)<(5:Int)))=false): ∃T1,Rd Try.prog [] (q55.loopAt 2) Try.f55.ntmps (fr [(0,(pt bB 0)),(1,(.func (.func 56) ⟨[]⟩ ⟨[]⟩)),(2,(i64 (v:Int))),(7,S),(8,(i64 (u:Int))),(15,(aC G 0 n cg)),(16,(i64 (n:Int))),(17,(i64 (u:Int))),(23,(i64 (m:Int)))]) M (.exit 2) T1 M/\ [0,1,2,7,15,16,17].map T1.get= [some (pt bB 0),some (.func (.func 56) ⟨[]⟩ ⟨[]⟩),some (i64 (v:Int)),some S,some (aC G 0 n cg),some (i64 (n:Int)),some (i64 (u:Int))]:=by
 exact Rd.told (tb:=[]) (n:=60) (F:=[aO 2]) aG aF (aI Try.prog) (fun _ _=>rfl) (by kernel_rfl) (hk (bF a0) hn)
theorem Zk{bB C K G n ck cg:Nat}{c0 c1 c2 c3 c4 c5 cl:Value}{cur:List Int}{gone:List Bool}{v u:Nat}{S:Value}{l:List Int}{M0 M:aA}(hM:aB M)(X0:Ext M0 M)(a0:M0.get bB=some ⟨[c0,c1,c2,c3,c4,c5,pt C 0,aC G 0 n cg],53,8,0,true⟩)(a4:M0.get C=some ⟨[i64 n,aC K 0 cur.length ck,cl],73,3,0,true⟩)(a6:M0.get K=some ⟨cur.map i64,3,1,0,true⟩)(a5:M0.get G=some ⟨gone.map Value.bool,4,1,0,true⟩)(a1:n<=60)(a7:cur.length=n*n*5)(hv:v<n)(a8:gone.length=n)(hu:u<n)(hA:cT 3 1 M0 [bB,C,K,G] l.length (l.map i64) S M)(hl30:l.length<1000000):
  ∃S' M',bN Try.prog [] (q55.loopAt 2) Try.f55.ntmps (fr [(0,pt bB 0),(1,(.func (.func 56) ⟨[]⟩ ⟨[]⟩)),(2,i64 v),(7,S),(8,i64 u),(15,aC G 0 n cg),(16,i64 n),(17,i64 u),(23,i64 ((0:Nat):Int))]) M (.exit 2) (fr [(0,pt bB 0),(1,(.func (.func 56) ⟨[]⟩ ⟨[]⟩)),(2,i64 v),(7,S'),(15,aC G 0 n cg),(16,i64 n),(17,i64 u)]) M'/\Ext M0 M'/\aB M'/\cT 3 1 M0 [bB,C,K,G] (l++gN n cur .out v u 5).length ((l++gN n cur .out v u 5).map i64) S' M':=by
 obtain⟨S',M',h1,h2,h3,h4⟩:=bN.for (P:=Try.prog) (GL:= []) (b:=q55.loopAt 2) (nt:=Try.f55.ntmps) (id:=2) (σ:=Value) (n:=5) (Inv:=fun i S M1=>Ext M0 M1/\aB M1/\cT 3 1 M0 [bB,C,K,G] (l++gN n cur .out v u i).length ((l++gN n cur .out v u i).map i64) S M1)
  (F:=fun i S=> [(0,pt bB 0),(1,(.func (.func 56) ⟨[]⟩ ⟨[]⟩)),(2,i64 v),(7,S),(8,i64 u),(15,aC G 0 n cg),(16,i64 n),(17,i64 u),(23,i64 ((i:Nat):Int))])
  (O:=fun S=> [(0,pt bB 0),(1,(.func (.func 56) ⟨[]⟩ ⟨[]⟩)),(2,i64 v),(7,S),(15,aC G 0 n cg),(16,i64 n),(17,i64 u)])
  (by
   rintro i S M1 hi ⟨X1,a3,a2⟩
   have hln:=xS n cur .out v u i
   have a9:(l++gN n cur .out v u i).length<1073741824:=by rw[List.length_append];omega
   cases hq:(aW cur (bJ n .out v u i))==(-1:Int) with
   |true=>
    obtain⟨T1,M2,h1,h2,h3,h4,h5⟩:=riOn bB C K G n ck cg c0 c1 c2 c3 c4 c5 cl cur gone v u i S (l++gN n cur .out v u i) a3 X1 a0 a4 a6 a5 a1 a7 hv a8 hu a2 a9 (decide_eq_true (by omega)) hq
    rw[aX (by omega)] at h2
    refine⟨S,T1,M2,h1,h2,h3,h4,?_⟩
    rw[show gN n cur .out v u (i+1)=gN n cur .out v u i by rw[gN,hq];simp]
    exact h5
   |false=>
    obtain⟨T1,M2,S2,h1,h2,h3,h4,h5⟩:=riOa bB C K G n ck cg c0 c1 c2 c3 c4 c5 cl cur gone v u i S (l++gN n cur .out v u i) a3 X1 a0 a4 a6 a5 a1 a7 hv a8 hu a2 a9 (decide_eq_true (by omega)) hq
    rw[aX (by omega)] at h2
    refine⟨S2,T1,M2,h1,h2,h3,h4,?_⟩
    rw[show l++gN n cur .out v u (i+1)=(l++gN n cur .out v u i)++ [aW cur (bJ n .out v u i)] by rw[gN,hq];simp,List.length_append (bs:= [_]),List.map_append]
    exact h5)
  (by
   rintro S M1 ⟨X1,a3,a2⟩
   exact riOx bB G n cg v u 5 S (M:=M1) (decide_eq_false (by omega)))
  5 0 (by omega) (s:=S) (M:=M) ⟨X0,hM,by simpa [gN] using hA⟩
 exact⟨S',M',h1,h2,h3,h4⟩
theorem roOg(bB C K G n ck cg:Nat)(c0 c1 c2 c3 c4 c5 cl:Value)(cur:List Int)(gone:List Bool)(v u:Nat)(S:Value)(l:List Int)(gq:Bool){M:aA}{M0:aA}(X0:Ext M0 M)(gbB0:M0.get bB=some ⟨[c0,c1,c2,c3,c4,c5,pt C 0,aC G 0 n cg],53,8,0,true⟩)(gC0:M0.get C=some ⟨[i64 n,aC K 0 cur.length ck,cl],73,3,0,true⟩)(gK0:M0.get K=some ⟨cur.map i64,3,1,0,true⟩)(a2:M0.get G=some ⟨gone.map Value.bool,4,1,0,true⟩)(hc60:n<=60)(hcl:cur.length=n*n*5)(hv:v<n)(hgl:gone.length=n)(hA:cT 3 1 M0 [bB,C,K,G] l.length (l.map i64) S M)(hl30:l.length<1000000)(a0:(decide ((u:Int)<(n:Int)))=true)(a1:(gq)=true)(a3:(gone.map Value.bool)[0+((u:Int):Int).toNat*1]?=some (.bool gq)): ∃T1,Rd Try.prog [] (q55.loopAt 0) Try.f55.ntmps (fr [(0,(pt bB 0)),(1,(.func (.func 56) ⟨[]⟩ ⟨[]⟩)),(2,(i64 (v:Int))),(7,S),(15,(aC G 0 n cg)),(16,(i64 (n:Int))),(17,(i64 (u:Int)))]) M .normal T1 M/\ [0,1,2,7,15,16,17].map T1.get= [some (pt bB 0),some (.func (.func 56) ⟨[]⟩ ⟨[]⟩),some (i64 (v:Int)),some S,some (aC G 0 n cg),some (i64 (n:Int)),some (i64 (IntKind.wrap .i64 ((u:Int)+(1:Int))))]:=by
 have gG:=X0.old a2
 exact Rd.told (tb:=[]) (n:=60) (F:=[aP 2,aP 6,aR 8 (.bool gq),aP 15]) aG aF (aI Try.prog) (fun _ _=>rfl) (by kernel_rfl) (hk (bT a0) (hk (qI (u:Int) n (by omega) (by simp at a0;omega)) (hq (qL 4 G (0+((u:Int):Int).toNat*1) M (.bool gq)) (fF (bG (a:=⟨G,0+((u:Int):Int).toNat*1,none⟩) Rh gG a3)) (hk (bT a1) hn))))
theorem roOs(bB C K G n ck cg:Nat)(c0 c1 c2 c3 c4 c5 cl:Value)(cur:List Int)(gone:List Bool)(v u:Nat)(S:Value)(l:List Int)(gq:Bool){M M0:aA}(hM:aB M)(X0:Ext M0 M)(a1:M0.get bB=some ⟨[c0,c1,c2,c3,c4,c5,pt C 0,aC G 0 n cg],53,8,0,true⟩)(a6:M0.get C=some ⟨[i64 n,aC K 0 cur.length ck,cl],73,3,0,true⟩)(a7:M0.get K=some ⟨cur.map i64,3,1,0,true⟩)(a4:M0.get G=some ⟨gone.map Value.bool,4,1,0,true⟩)(a2:n<=60)(b1:cur.length=n*n*5)(hv:v<n)(b2:gone.length=n)(hA:cT 3 1 M0 [bB,C,K,G] l.length (l.map i64) S M)(a3:l.length<1000000)(a0:(decide ((u:Int)<(n:Int)))=true)(a5:(gq)=false)(b0:(gone.map Value.bool)[0+((u:Int):Int).toNat*1]?=some (.bool gq)): ∃T1 M' S1,Rd Try.prog [] (q55.loopAt 0) Try.f55.ntmps (fr [(0,(pt bB 0)),(1,(.func (.func 56) ⟨[]⟩ ⟨[]⟩)),(2,(i64 (v:Int))),(7,S),(15,(aC G 0 n cg)),(16,(i64 (n:Int))),(17,(i64 (u:Int)))]) M .normal T1 M'/\ [0,1,2,7,15,16,17].map T1.get= [some (pt bB 0),some (.func (.func 56) ⟨[]⟩ ⟨[]⟩),some (i64 (v:Int)),some S1,some (aC G 0 n cg),some (i64 (n:Int)),some (i64 (IntKind.wrap .i64 ((u:Int)+(1:Int))))]/\Ext M0 M'/\aB M'/\cT 3 1 M0 [bB,C,K,G] (l++gN n cur .out v u 5).length ((l++gN n cur .out v u 5).map i64) S1 M':=by
 have gG:=X0.old a4
 obtain⟨S1,M2,a8,X4,a9,A6⟩:=Zk hM X0 a1 a6 a7 a4 a2 b1 hv b2 (u:=u) (by simp at a0;omega) hA a3
 obtain⟨T1,h1,h2⟩:=Rd.told (tb:=[2]) (n:=60) (F:=[aP 2,aP 6,aR 8 (.bool gq),aO 15,.blk 18 [0,1,2,7,8,15,16,17,23] .normal (fr [(0,(pt bB 0)),(1,(.func (.func 56) ⟨[]⟩ ⟨[]⟩)),(2,(i64 (v:Int))),(7,S1),(15,(aC G 0 n cg)),(16,(i64 (n:Int))),(17,(i64 (u:Int)))]) M2]) aG aF (fun B=>zJ (gS B) 2 a8) (fun _ h=>cD h) (by kernel_rfl) (hk (bT a0) (hk (qI (u:Int) n (by omega) (by simp at a0;omega)) (hq (qL 4 G (0+((u:Int):Int).toNat*1) M (.bool gq)) (fF (bG (a:=⟨G,0+((u:Int):Int).toNat*1,none⟩) Rh gG b0)) (hk (bF a5) (hq (.blk 2 (.loop (q55.loopAt 2)) Try.f55.ntmps [0,1,2,7,8,15,16,17,23] [some (pt bB 0),some (.func (.func 56) ⟨[]⟩ ⟨[]⟩),some (i64 (v:Int)),some S,some (i64 (u:Int)),some (aC G 0 n cg),some (i64 (n:Int)),some (i64 (u:Int)),some (i64 0)] M .normal (fr [(0,(pt bB 0)),(1,(.func (.func 56) ⟨[]⟩ ⟨[]⟩)),(2,(i64 (v:Int))),(7,S1),(15,(aC G 0 n cg)),(16,(i64 (n:Int))),(17,(i64 (u:Int)))]) M2) (fP rfl) hn)))))
 exact⟨T1,M2,S1,h1,h2,X4,a9,A6⟩
theorem roOx(bB C K G n ck cg:Nat)(c0 c1 c2 c3 c4 c5 cl:Value)(cur:List Int)(gone:List Bool)(v u:Nat)(S:Value){M:aA}{M0:aA}(X0:Ext M0 M)(gbB0:M0.get bB=some ⟨[c0,c1,c2,c3,c4,c5,pt C 0,aC G 0 n cg],53,8,0,true⟩)(gC0:M0.get C=some ⟨[i64 n,aC K 0 cur.length ck,cl],73,3,0,true⟩)(gK0:M0.get K=some ⟨cur.map i64,3,1,0,true⟩)(gG0:M0.get G=some ⟨gone.map Value.bool,4,1,0,true⟩)(a0:(decide ((u:Int)<(n:Int)))=false): ∃T1,Rd Try.prog [] (q55.loopAt 0) Try.f55.ntmps (fr [(0,(pt bB 0)),(1,(.func (.func 56) ⟨[]⟩ ⟨[]⟩)),(2,(i64 (v:Int))),(7,S),(15,(aC G 0 n cg)),(16,(i64 (n:Int))),(17,(i64 (u:Int)))]) M (.exit 0) T1 M/\ [7].map T1.get= [some S]:=by
 exact Rd.told (tb:=[]) (n:=60) (F:=[aO 2]) aG aF (aI Try.prog) (fun _ _=>rfl) (by kernel_rfl) (hk (bF a0) hn)
theorem riIn(bB C K G n ck cg:Nat)(c0 c1 c2 c3 c4 c5 cl:Value)(cur:List Int)(gone:List Bool)(v u m:Nat)(S:Value)(l:List Int){M M0:aA}(hM:aB M)(X0:Ext M0 M)(a0:M0.get bB=some ⟨[c0,c1,c2,c3,c4,c5,pt C 0,aC G 0 n cg],53,8,0,true⟩)(a7:M0.get C=some ⟨[i64 n,aC K 0 cur.length ck,cl],73,3,0,true⟩)(a8:M0.get K=some ⟨cur.map i64,3,1,0,true⟩)(gG0:M0.get G=some ⟨gone.map Value.bool,4,1,0,true⟩)(a1:n<=60)(b1:cur.length=n*n*5)(hv:v<n)(hgl:gone.length=n)(hu:u<n)(hA:cT 3 1 M0 [bB,C,K,G] l.length (l.map i64) S M)(hl30:l.length<1073741824)(a2:(decide ((m:Int)<(5:Int)))=true)(a5:((aW cur (bJ n .inn v u m))==(-1:Int))=true): ∃T1 M',Rd Try.prog [] (q55.loopAt 2) Try.f55.ntmps (fr [(0,(pt bB 0)),(1,(.func (.func 57) ⟨[]⟩ ⟨[]⟩)),(2,(i64 (v:Int))),(7,S),(8,(i64 (u:Int))),(15,(aC G 0 n cg)),(16,(i64 (n:Int))),(17,(i64 (u:Int))),(23,(i64 (m:Int)))]) M .normal T1 M'/\ [0,1,2,7,8,15,16,17,23].map T1.get= [some (pt bB 0),some (.func (.func 57) ⟨[]⟩ ⟨[]⟩),some (i64 (v:Int)),some S,some (i64 (u:Int)),some (aC G 0 n cg),some (i64 (n:Int)),some (i64 (u:Int)),some (i64 (IntKind.wrap .i64 ((m:Int)+(1:Int))))]/\Ext M0 M'/\aB M'/\cT 3 1 M0 [bB,C,K,G] l.length (l.map i64) S M':=by
 have a9:=X0.old a0
 have gC:=X0.old a7
 have gK:=X0.old a8
 obtain⟨w1,N2,M3,p4,l5,e6,E7,b0,F9⟩:=aM (x:=((n,cur),v,u,m)) hM Xl (⟨⟨_,_,_,_,rfl,⟨C,K,_,_,rfl,gC,gK⟩,rfl,rfl,rfl⟩,a1,b1,hv,hu,(by have:=of_decide_eq_true a2;show m<5;omega)⟩)
 have a3:=hA.ext E7
 have a6:w1=i64 (aW cur (bJ n .inn v u m)):=F9
 subst a6
 have a4:=X0.trans E7
 obtain⟨T1,h1,h2⟩:=Rd.told (tb:=[]) (n:=60) (F:=[aP 2,aR 16 (pt C 0),bK 24 (i64 (aW cur (bJ n .inn v u m))) M3,aO 31]) aG aF (fun B=>lQ (gP 57 Q57 (gS _))) (fun _ _=>rfl) (by kernel_rfl) (hk (bT a2) (hk (lO 6 Qa a9 rfl) (hq (qC 57 [pt C 0,i64 (v:Int),i64 (u:Int),i64 (m:Int)] M (i64 (aW cur (bJ n .inn v u m))) M3) (aJ rfl p4 l5 e6) (hk (bF (x:=!((aW cur (bJ n .inn v u m))==(-1:Int))) (by rw[a5];rfl)) hn))))
 exact⟨T1,M3,h1,h2,a4,b0,a3⟩
theorem riIa(bB C K G n ck cg:Nat)(c0 c1 c2 c3 c4 c5 cl:Value)(cur:List Int)(gone:List Bool)(v u m:Nat)(S:Value)(l:List Int){M M0:aA}(hM:aB M)(X0:Ext M0 M)(a9:M0.get bB=some ⟨[c0,c1,c2,c3,c4,c5,pt C 0,aC G 0 n cg],53,8,0,true⟩)(e3:M0.get C=some ⟨[i64 n,aC K 0 cur.length ck,cl],73,3,0,true⟩)(e5:M0.get K=some ⟨cur.map i64,3,1,0,true⟩)(e4:M0.get G=some ⟨gone.map Value.bool,4,1,0,true⟩)(b2:n<=60)(e8:cur.length=n*n*5)(hv:v<n)(hgl:gone.length=n)(hu:u<n)(hA:cT 3 1 M0 [bB,C,K,G] l.length (l.map i64) S M)(b3:l.length<1073741824)(b6:(decide ((m:Int)<(5:Int)))=true)(d7:((aW cur (bJ n .inn v u m))==(-1:Int))=false): ∃T1 M' a1,Rd Try.prog [] (q55.loopAt 2) Try.f55.ntmps (fr [(0,(pt bB 0)),(1,(.func (.func 57) ⟨[]⟩ ⟨[]⟩)),(2,(i64 (v:Int))),(7,S),(8,(i64 (u:Int))),(15,(aC G 0 n cg)),(16,(i64 (n:Int))),(17,(i64 (u:Int))),(23,(i64 (m:Int)))]) M .normal T1 M'/\ [0,1,2,7,8,15,16,17,23].map T1.get= [some (pt bB 0),some (.func (.func 57) ⟨[]⟩ ⟨[]⟩),some (i64 (v:Int)),some a1,some (i64 (u:Int)),some (aC G 0 n cg),some (i64 (n:Int)),some (i64 (u:Int)),some (i64 (IntKind.wrap .i64 ((m:Int)+(1:Int))))]/\Ext M0 M'/\aB M'/\cT 3 1 M0 [bB,C,K,G] (l.length+1) (l.map i64++ [i64 (aW cur (bJ n .inn v u m))]) a1 M':=by
 have d1:=X0.old a9
 have gC:=X0.old e3
 have gK:=X0.old e5
 have gG:=X0.old e4
 obtain⟨w1,N2,M3,p4,l5,e6,E7,e7,F9⟩:=aM (x:=((n,cur),v,u,m)) hM Xl (⟨⟨_,_,_,_,rfl,⟨C,K,_,_,rfl,gC,gK⟩,rfl,rfl,rfl⟩,b2,e8,hv,hu,(by have:=of_decide_eq_true b6;show m<5;omega)⟩)
 have d2:=hA.ext E7
 have c6:=E7.old d1
 have c7:=E7.old gC
 have c8:=E7.old gK
 have c9:=E7.old gG
 have d8:w1=i64 (aW cur (bJ n .inn v u m)):=F9
 subst d8
 have b5:=X0.trans E7
 obtain⟨a6,a5,a0,a8,d0,a2,b0⟩:=bE e7 ⟨[i64 (aW cur (bJ n .inn v u m))],3,1,0,true⟩
 have f1:=mG a0 b5
 have a7:=fL c6 a0
 have b7:=fL c7 a0
 have b9:=fL c8 a0
 have b8:=fL c9 a0
 have d3:=d2.new a0 a2
 have d9:=a2.old c6
 have e0:=a2.old c7
 have e1:=a2.old c8
 have e2:=a2.old c9
 have d5:=b5.trans a2
 obtain⟨a4,a1,a3,f2,d6,b1,d4,f0,e9⟩:=gW (P:=Try.prog) (sT:=22) (xT:=22) (y:=8) (c:=2) d3 d5 b0 (by intro x hx;simp only [List.mem_cons,List.not_mem_nil,or_false] at hx;rcases hx with rfl|rfl|rfl|rfl|rfl<;>first|exact aA.lt_of_get d0|exact aA.lt_of_get d9|exact aA.lt_of_get e0|exact aA.lt_of_get e1|exact aA.lt_of_get e2) (by kernel_rfl) (by kernel_rfl) (by kernel_rfl) (by kernel_rfl) (by decide) (by decide) rfl b3 d0 (o:=0) (new:= [i64 (aW cur (bJ n .inn v u m))]) rfl rfl rfl
 have b4:oR Try.prog [] 60 Try.f55 (q55.loopAt 2) [(0,(pt bB 0)),(1,(.func (.func 57) ⟨[]⟩ ⟨[]⟩)),(2,(i64 (v:Int))),(7,S),(8,(i64 (u:Int))),(15,(aC G 0 n cg)),(16,(i64 (n:Int))),(17,(i64 (u:Int))),(23,(i64 (m:Int)))] M [aP 2,aR 16 (pt C 0),bK 24 (i64 (aW cur (bJ n .inn v u m))) M3,aP 31,bK 37 (aC a6 0 1 2) a5,.at 39 ((bif a4 then 1 else 2),.val a1,a3)] [0,1,2,7,8,15,16,17,23]=some (.normal,[some (pt bB 0),some (.func (.func 57) ⟨[]⟩ ⟨[]⟩),some (i64 (v:Int)),some a1,some (i64 (u:Int)),some (aC G 0 n cg),some (i64 (n:Int)),some (i64 (u:Int)),some (i64 (IntKind.wrap .i64 ((m:Int)+(1:Int))))],a3,[qT (decide ((m:Int)<(5:Int))),qL 51 bB 6 M (pt C 0),qC 57 [pt C 0,i64 (v:Int),i64 (u:Int),i64 (m:Int)] M (i64 (aW cur (bJ n .inn v u m))) M3,qT (!((aW cur (bJ n .inn v u m))==(-1:Int))),.eq (bH Try.prog 22 1 [(0,(i64 (aW cur (bJ n .inn v u m))))] M3) (1,.val (aC a6 0 1 2),a5),.q (.append [22,22] S (aC a6 0 1 2) a5) ((bif a4 then 1 else 2),.val a1,a3)]):=by cases a4<;>kernel_rfl
 obtain⟨T1,h1,h2⟩:=Rd.told aG aF (fun B=>lQ (gP 57 Q57 (gS _))) (fun _ _=>rfl) b4 (hk (bT b6) (hk (lC Qa d1 rfl) (hk (aJ rfl p4 l5 e6) (hk (bT (by rw[d7];rfl)) (hk (bP (by rw[<-a0,<-a8];kernel_rfl) Nat.one_ne_zero) (hk (kS f2 (by cases a4<;>simp)) hn))))))
 exact⟨T1,a3,a1,h1,h2,d6,b1,d4.less (by intro x hx;simp only [List.mem_cons,List.not_mem_nil,or_false] at hx⊢;omega)⟩
theorem riIx(bB G n cg v u m:Nat)(S:Value){M:aA}(a0:(decide ((m:Int)<(5:Int)))=false): ∃T1,Rd Try.prog [] (q55.loopAt 2) Try.f55.ntmps (fr [(0,(pt bB 0)),(1,(.func (.func 57) ⟨[]⟩ ⟨[]⟩)),(2,(i64 (v:Int))),(7,S),(8,(i64 (u:Int))),(15,(aC G 0 n cg)),(16,(i64 (n:Int))),(17,(i64 (u:Int))),(23,(i64 (m:Int)))]) M (.exit 2) T1 M/\ [0,1,2,7,15,16,17].map T1.get= [some (pt bB 0),some (.func (.func 57) ⟨[]⟩ ⟨[]⟩),some (i64 (v:Int)),some S,some (aC G 0 n cg),some (i64 (n:Int)),some (i64 (u:Int))]:=by
 exact Rd.told (tb:=[]) (n:=60) (F:=[aO 2]) aG aF (aI Try.prog) (fun _ _=>rfl) (by kernel_rfl) (hk (bF a0) hn)
theorem Zj{bB C K G n ck cg:Nat}{c0 c1 c2 c3 c4 c5 cl:Value}{cur:List Int}{gone:List Bool}{v u:Nat}{S:Value}{l:List Int}{M0 M:aA}(hM:aB M)(X0:Ext M0 M)(a0:M0.get bB=some ⟨[c0,c1,c2,c3,c4,c5,pt C 0,aC G 0 n cg],53,8,0,true⟩)(a4:M0.get C=some ⟨[i64 n,aC K 0 cur.length ck,cl],73,3,0,true⟩)(a6:M0.get K=some ⟨cur.map i64,3,1,0,true⟩)(a5:M0.get G=some ⟨gone.map Value.bool,4,1,0,true⟩)(a1:n<=60)(a7:cur.length=n*n*5)(hv:v<n)(a8:gone.length=n)(hu:u<n)(hA:cT 3 1 M0 [bB,C,K,G] l.length (l.map i64) S M)(hl30:l.length<1000000):
  ∃S' M',bN Try.prog [] (q55.loopAt 2) Try.f55.ntmps (fr [(0,pt bB 0),(1,(.func (.func 57) ⟨[]⟩ ⟨[]⟩)),(2,i64 v),(7,S),(8,i64 u),(15,aC G 0 n cg),(16,i64 n),(17,i64 u),(23,i64 ((0:Nat):Int))]) M (.exit 2) (fr [(0,pt bB 0),(1,(.func (.func 57) ⟨[]⟩ ⟨[]⟩)),(2,i64 v),(7,S'),(15,aC G 0 n cg),(16,i64 n),(17,i64 u)]) M'/\Ext M0 M'/\aB M'/\cT 3 1 M0 [bB,C,K,G] (l++gN n cur .inn v u 5).length ((l++gN n cur .inn v u 5).map i64) S' M':=by
 obtain⟨S',M',h1,h2,h3,h4⟩:=bN.for (P:=Try.prog) (GL:= []) (b:=q55.loopAt 2) (nt:=Try.f55.ntmps) (id:=2) (σ:=Value) (n:=5) (Inv:=fun i S M1=>Ext M0 M1/\aB M1/\cT 3 1 M0 [bB,C,K,G] (l++gN n cur .inn v u i).length ((l++gN n cur .inn v u i).map i64) S M1)
  (F:=fun i S=> [(0,pt bB 0),(1,(.func (.func 57) ⟨[]⟩ ⟨[]⟩)),(2,i64 v),(7,S),(8,i64 u),(15,aC G 0 n cg),(16,i64 n),(17,i64 u),(23,i64 ((i:Nat):Int))])
  (O:=fun S=> [(0,pt bB 0),(1,(.func (.func 57) ⟨[]⟩ ⟨[]⟩)),(2,i64 v),(7,S),(15,aC G 0 n cg),(16,i64 n),(17,i64 u)])
  (by
   rintro i S M1 hi ⟨X1,a3,a2⟩
   have hln:=xS n cur .inn v u i
   have a9:(l++gN n cur .inn v u i).length<1073741824:=by rw[List.length_append];omega
   cases hq:(aW cur (bJ n .inn v u i))==(-1:Int) with
   |true=>
    obtain⟨T1,M2,h1,h2,h3,h4,h5⟩:=riIn bB C K G n ck cg c0 c1 c2 c3 c4 c5 cl cur gone v u i S (l++gN n cur .inn v u i) a3 X1 a0 a4 a6 a5 a1 a7 hv a8 hu a2 a9 (decide_eq_true (by omega)) hq
    rw[aX (by omega)] at h2
    refine⟨S,T1,M2,h1,h2,h3,h4,?_⟩
    rw[show gN n cur .inn v u (i+1)=gN n cur .inn v u i by rw[gN,hq];simp]
    exact h5
   |false=>
    obtain⟨T1,M2,S2,h1,h2,h3,h4,h5⟩:=riIa bB C K G n ck cg c0 c1 c2 c3 c4 c5 cl cur gone v u i S (l++gN n cur .inn v u i) a3 X1 a0 a4 a6 a5 a1 a7 hv a8 hu a2 a9 (decide_eq_true (by omega)) hq
    rw[aX (by omega)] at h2
    refine⟨S2,T1,M2,h1,h2,h3,h4,?_⟩
    rw[show l++gN n cur .inn v u (i+1)=(l++gN n cur .inn v u i)++ [aW cur (bJ n .inn v u i)] by rw[gN,hq];simp,List.length_append (bs:= [_]),List.map_append]
    exact h5)
  (by
   rintro S M1 ⟨X1,a3,a2⟩
   exact riIx bB G n cg v u 5 S (M:=M1) (decide_eq_false (by omega)))
  5 0 (by omega) (s:=S) (M:=M) ⟨X0,hM,by simpa [gN] using hA⟩
 exact⟨S',M',h1,h2,h3,h4⟩
theorem roIg(bB C K G n ck cg:Nat)(c0 c1 c2 c3 c4 c5 cl:Value)(cur:List Int)(gone:List Bool)(v u:Nat)(S:Value)(l:List Int)(gq:Bool){M:aA}{M0:aA}(X0:Ext M0 M)(gbB0:M0.get bB=some ⟨[c0,c1,c2,c3,c4,c5,pt C 0,aC G 0 n cg],53,8,0,true⟩)(gC0:M0.get C=some ⟨[i64 n,aC K 0 cur.length ck,cl],73,3,0,true⟩)(gK0:M0.get K=some ⟨cur.map i64,3,1,0,true⟩)(a2:M0.get G=some ⟨gone.map Value.bool,4,1,0,true⟩)(hc60:n<=60)(hcl:cur.length=n*n*5)(hv:v<n)(hgl:gone.length=n)(hA:cT 3 1 M0 [bB,C,K,G] l.length (l.map i64) S M)(hl30:l.length<1000000)(a0:(decide ((u:Int)<(n:Int)))=true)(a1:(gq)=true)(a3:(gone.map Value.bool)[0+((u:Int):Int).toNat*1]?=some (.bool gq)): ∃T1,Rd Try.prog [] (q55.loopAt 0) Try.f55.ntmps (fr [(0,(pt bB 0)),(1,(.func (.func 57) ⟨[]⟩ ⟨[]⟩)),(2,(i64 (v:Int))),(7,S),(15,(aC G 0 n cg)),(16,(i64 (n:Int))),(17,(i64 (u:Int)))]) M .normal T1 M/\ [0,1,2,7,15,16,17].map T1.get= [some (pt bB 0),some (.func (.func 57) ⟨[]⟩ ⟨[]⟩),some (i64 (v:Int)),some S,some (aC G 0 n cg),some (i64 (n:Int)),some (i64 (IntKind.wrap .i64 ((u:Int)+(1:Int))))]:=by
 have gG:=X0.old a2
 exact Rd.told (tb:=[]) (n:=60) (F:=[aP 2,aP 6,aR 8 (.bool gq),aP 15]) aG aF (aI Try.prog) (fun _ _=>rfl) (by kernel_rfl) (hk (bT a0) (hk (qI (u:Int) n (by omega) (by simp at a0;omega)) (hq (qL 4 G (0+((u:Int):Int).toNat*1) M (.bool gq)) (fF (bG (a:=⟨G,0+((u:Int):Int).toNat*1,none⟩) Rh gG a3)) (hk (bT a1) hn))))
theorem roIs(bB C K G n ck cg:Nat)(c0 c1 c2 c3 c4 c5 cl:Value)(cur:List Int)(gone:List Bool)(v u:Nat)(S:Value)(l:List Int)(gq:Bool){M M0:aA}(hM:aB M)(X0:Ext M0 M)(a1:M0.get bB=some ⟨[c0,c1,c2,c3,c4,c5,pt C 0,aC G 0 n cg],53,8,0,true⟩)(a6:M0.get C=some ⟨[i64 n,aC K 0 cur.length ck,cl],73,3,0,true⟩)(a7:M0.get K=some ⟨cur.map i64,3,1,0,true⟩)(a4:M0.get G=some ⟨gone.map Value.bool,4,1,0,true⟩)(a2:n<=60)(b1:cur.length=n*n*5)(hv:v<n)(b2:gone.length=n)(hA:cT 3 1 M0 [bB,C,K,G] l.length (l.map i64) S M)(a3:l.length<1000000)(a0:(decide ((u:Int)<(n:Int)))=true)(a5:(gq)=false)(b0:(gone.map Value.bool)[0+((u:Int):Int).toNat*1]?=some (.bool gq)): ∃T1 M' S1,Rd Try.prog [] (q55.loopAt 0) Try.f55.ntmps (fr [(0,(pt bB 0)),(1,(.func (.func 57) ⟨[]⟩ ⟨[]⟩)),(2,(i64 (v:Int))),(7,S),(15,(aC G 0 n cg)),(16,(i64 (n:Int))),(17,(i64 (u:Int)))]) M .normal T1 M'/\ [0,1,2,7,15,16,17].map T1.get= [some (pt bB 0),some (.func (.func 57) ⟨[]⟩ ⟨[]⟩),some (i64 (v:Int)),some S1,some (aC G 0 n cg),some (i64 (n:Int)),some (i64 (IntKind.wrap .i64 ((u:Int)+(1:Int))))]/\Ext M0 M'/\aB M'/\cT 3 1 M0 [bB,C,K,G] (l++gN n cur .inn v u 5).length ((l++gN n cur .inn v u 5).map i64) S1 M':=by
 have gG:=X0.old a4
 obtain⟨S1,M2,a8,X4,a9,A6⟩:=Zj hM X0 a1 a6 a7 a4 a2 b1 hv b2 (u:=u) (by simp at a0;omega) hA a3
 obtain⟨T1,h1,h2⟩:=Rd.told (tb:=[2]) (n:=60) (F:=[aP 2,aP 6,aR 8 (.bool gq),aO 15,.blk 18 [0,1,2,7,8,15,16,17,23] .normal (fr [(0,(pt bB 0)),(1,(.func (.func 57) ⟨[]⟩ ⟨[]⟩)),(2,(i64 (v:Int))),(7,S1),(15,(aC G 0 n cg)),(16,(i64 (n:Int))),(17,(i64 (u:Int)))]) M2]) aG aF (fun B=>zJ (gS B) 2 a8) (fun _ h=>cD h) (by kernel_rfl) (hk (bT a0) (hk (qI (u:Int) n (by omega) (by simp at a0;omega)) (hq (qL 4 G (0+((u:Int):Int).toNat*1) M (.bool gq)) (fF (bG (a:=⟨G,0+((u:Int):Int).toNat*1,none⟩) Rh gG b0)) (hk (bF a5) (hq (.blk 2 (.loop (q55.loopAt 2)) Try.f55.ntmps [0,1,2,7,8,15,16,17,23] [some (pt bB 0),some (.func (.func 57) ⟨[]⟩ ⟨[]⟩),some (i64 (v:Int)),some S,some (i64 (u:Int)),some (aC G 0 n cg),some (i64 (n:Int)),some (i64 (u:Int)),some (i64 0)] M .normal (fr [(0,(pt bB 0)),(1,(.func (.func 57) ⟨[]⟩ ⟨[]⟩)),(2,(i64 (v:Int))),(7,S1),(15,(aC G 0 n cg)),(16,(i64 (n:Int))),(17,(i64 (u:Int)))]) M2) (fP rfl) hn)))))
 exact⟨T1,M2,S1,h1,h2,X4,a9,A6⟩
theorem roIx(bB C K G n ck cg:Nat)(c0 c1 c2 c3 c4 c5 cl:Value)(cur:List Int)(gone:List Bool)(v u:Nat)(S:Value){M:aA}{M0:aA}(X0:Ext M0 M)(gbB0:M0.get bB=some ⟨[c0,c1,c2,c3,c4,c5,pt C 0,aC G 0 n cg],53,8,0,true⟩)(gC0:M0.get C=some ⟨[i64 n,aC K 0 cur.length ck,cl],73,3,0,true⟩)(gK0:M0.get K=some ⟨cur.map i64,3,1,0,true⟩)(gG0:M0.get G=some ⟨gone.map Value.bool,4,1,0,true⟩)(a0:(decide ((u:Int)<(n:Int)))=false): ∃T1,Rd Try.prog [] (q55.loopAt 0) Try.f55.ntmps (fr [(0,(pt bB 0)),(1,(.func (.func 57) ⟨[]⟩ ⟨[]⟩)),(2,(i64 (v:Int))),(7,S),(15,(aC G 0 n cg)),(16,(i64 (n:Int))),(17,(i64 (u:Int)))]) M (.exit 0) T1 M/\ [7].map T1.get= [some S]:=by
 exact Rd.told (tb:=[]) (n:=60) (F:=[aO 2]) aG aF (aI Try.prog) (fun _ _=>rfl) (by kernel_rfl) (hk (bF a0) hn)
theorem Vi:(Try.prog.underlying 35).map dR=some false:=by kernel_rfl
theorem wR{M M':aA}{bad:List Nat}{l:List Int}{S:Value}(h:cT 3 1 M bad l.length (l.map i64) S M')(hl:l.length<=9223372036854775807):aL l S (hid M.next M'):=by
 rcases h with⟨rfl,h0,_⟩|⟨b,rfl,_,_,h3,h5,h6⟩
 ·rw[List.eq_nil_of_length_eq_zero h0];exact aH.nil none
 ·exact aH.of_blk' (jV h3 h6) rfl (Ac l).symm (fun _ _=>rfl) hl
theorem Zn{bB C K G n ck cg:Nat}{c0 c1 c2 c3 c4 c5 cl:Value}{cur:List Int}{gone:List Bool}{v:Nat}{M0 M:aA}(hM:aB M)(X0:Ext M0 M)(a0:M0.get bB=some ⟨[c0,c1,c2,c3,c4,c5,pt C 0,aC G 0 n cg],53,8,0,true⟩)(a4:M0.get C=some ⟨[i64 n,aC K 0 cur.length ck,cl],73,3,0,true⟩)(a6:M0.get K=some ⟨cur.map i64,3,1,0,true⟩)(a5:M0.get G=some ⟨gone.map Value.bool,4,1,0,true⟩)(a1:n<=60)(a8:cur.length=n*n*5)(hv:v<n)(a9:gone.length=n):
  ∃S' M',bN Try.prog [] (q55.loopAt 0) Try.f55.ntmps (fr [(0,pt bB 0),(1,(.func (.func 56) ⟨[]⟩ ⟨[]⟩)),(2,i64 v),(7,eZ),(15,aC G 0 n cg),(16,i64 n),(17,i64 ((0:Nat):Int))]) M (.exit 0) (fr [(7,S')]) M'/\Ext M0 M'/\aB M'/\cT 3 1 M0 [bB,C,K,G] (eJ n cur gone .out v n).length ((eJ n cur gone .out v n).map i64) S' M':=by
 obtain⟨S',M',h1,h2,h3,h4⟩:=bN.for (P:=Try.prog) (GL:= []) (b:=q55.loopAt 0) (nt:=Try.f55.ntmps) (id:=0) (σ:=Value) (n:=n) (Inv:=fun i S M1=>Ext M0 M1/\aB M1/\cT 3 1 M0 [bB,C,K,G] (eJ n cur gone .out v i).length ((eJ n cur gone .out v i).map i64) S M1)
  (F:=fun i S=> [(0,pt bB 0),(1,(.func (.func 56) ⟨[]⟩ ⟨[]⟩)),(2,i64 v),(7,S),(15,aC G 0 n cg),(16,i64 n),(17,i64 ((i:Nat):Int))])
  (O:=fun S=> [(7,S)])
  (by
   rintro i S M1 hi ⟨X1,a7,a2⟩
   have hln:=lK n cur gone .out v i
   have b0:gone[i]?=some (cH gone i):=by unfold cH;rw[List.getElem?_eq_getElem (by omega)];rfl
   have a3:(gone.map Value.bool)[0+((i:Int):Int).toNat*1]?=some (.bool (cH gone i)):=by simp [b0]
   cases hq:cH gone i with
   |true=>
    rw[hq] at a3
    obtain⟨T1,h1,h2⟩:=roOg bB C K G n ck cg c0 c1 c2 c3 c4 c5 cl cur gone v i S (eJ n cur gone .out v i) true (M:=M1) X1 a0 a4 a6 a5 a1 a8 hv a9 a2 (by omega) (decide_eq_true (by omega)) rfl a3
    rw[aX (by omega)] at h2
    refine⟨S,T1,M1,h1,h2,X1,a7,?_⟩
    rw[show eJ n cur gone .out v (i+1)=eJ n cur gone .out v i by rw[eJ,hq];simp]
    exact a2
   |false=>
    rw[hq] at a3
    obtain⟨T1,M2,S2,h1,h2,h3,h4,h5⟩:=roOs bB C K G n ck cg c0 c1 c2 c3 c4 c5 cl cur gone v i S (eJ n cur gone .out v i) false a7 X1 a0 a4 a6 a5 a1 a8 hv a9 a2 (by omega) (decide_eq_true (by omega)) rfl a3
    rw[aX (by omega)] at h2
    refine⟨S2,T1,M2,h1,h2,h3,h4,?_⟩
    rw[show eJ n cur gone .out v (i+1)=eJ n cur gone .out v i++gN n cur .out v i 5 by rw[eJ,hq];simp]
    exact h5)
  (by
   rintro S M1 ⟨X1,a7,a2⟩
   exact roOx bB C K G n ck cg c0 c1 c2 c3 c4 c5 cl cur gone v n S (M:=M1) X1 a0 a4 a6 a5 (decide_eq_false (by omega)))
  n 0 (by omega) (s:=eZ) (M:=M) ⟨X0,hM,.inl ⟨rfl,rfl,rfl⟩⟩
 exact⟨S',M',h1,h2,h3,h4⟩
theorem rK55:Try.f55.results= #[.tmp 6]:=by kernel_rfl
theorem hw55O(bB C K G n ck cg:Nat)(c0 c1 c2 c3 c4 c5 cl:Value)(cur:List Int)(gone:List Bool)(v:Nat){M:aA}(hM:aB M)(a0:M.get bB=some ⟨[c0,c1,c2,c3,c4,c5,pt C 0,aC G 0 n cg],53,8,0,true⟩)(a2:M.get C=some ⟨[i64 n,aC K 0 cur.length ck,cl],73,3,0,true⟩)(a4:M.get K=some ⟨cur.map i64,3,1,0,true⟩)(a3:M.get G=some ⟨gone.map Value.bool,4,1,0,true⟩)(a1:n<=60)(a8:cur.length=n*n*5)(hv:v<n)(a9:gone.length=n): ∃v_ M',Ev Try.prog [] 55 [pt bB 0,.func (.func 56) ⟨[]⟩ ⟨[]⟩,i64 v] M v_ M'/\Ext M M'/\aB M'/\iQ aL (cO n cur gone .out v) M.next v_ M':=by
 have a5:=a0
 obtain⟨S1,M2,a6,X4,a7,A6⟩:=Zn hM (Ext.refl M) a0 a2 a4 a3 a1 a8 hv a9
 exact⟨S1,M2,Ev.told_tmp (tb:=[0]) (n:=60) (F:=[aR 11 (aC G 0 n cg),.blk 16 [0,1,2,7,15,16,17] .normal (fr [(7,S1)]) M2]) aG aF Try.func55 Ub (by kernel_rfl) rK55 (fun B=>zJ (gS B) 0 a6) (fun _ h=>cD h) (by kernel_rfl) (hk (lO 7 Vi a5 rfl) (hq (.blk 0 (.loop (q55.loopAt 0)) Try.f55.ntmps [0,1,2,7,15,16,17] [some (pt bB 0),some (.func (.func 56) ⟨[]⟩ ⟨[]⟩),some (i64 (v:Int)),some eZ,some (aC G 0 n cg),some (i64 (n:Int)),some (i64 0)] M .normal (fr [(7,S1)]) M2) (fP rfl) hn)),X4,a7,wR A6 (by have h9:(cO n cur gone .out v).length<=5*n:=lK n cur gone .out v n;omega)⟩
theorem Zm{bB C K G n ck cg:Nat}{c0 c1 c2 c3 c4 c5 cl:Value}{cur:List Int}{gone:List Bool}{v:Nat}{M0 M:aA}(hM:aB M)(X0:Ext M0 M)(a0:M0.get bB=some ⟨[c0,c1,c2,c3,c4,c5,pt C 0,aC G 0 n cg],53,8,0,true⟩)(a4:M0.get C=some ⟨[i64 n,aC K 0 cur.length ck,cl],73,3,0,true⟩)(a6:M0.get K=some ⟨cur.map i64,3,1,0,true⟩)(a5:M0.get G=some ⟨gone.map Value.bool,4,1,0,true⟩)(a1:n<=60)(a8:cur.length=n*n*5)(hv:v<n)(a9:gone.length=n):
  ∃S' M',bN Try.prog [] (q55.loopAt 0) Try.f55.ntmps (fr [(0,pt bB 0),(1,(.func (.func 57) ⟨[]⟩ ⟨[]⟩)),(2,i64 v),(7,eZ),(15,aC G 0 n cg),(16,i64 n),(17,i64 ((0:Nat):Int))]) M (.exit 0) (fr [(7,S')]) M'/\Ext M0 M'/\aB M'/\cT 3 1 M0 [bB,C,K,G] (eJ n cur gone .inn v n).length ((eJ n cur gone .inn v n).map i64) S' M':=by
 obtain⟨S',M',h1,h2,h3,h4⟩:=bN.for (P:=Try.prog) (GL:= []) (b:=q55.loopAt 0) (nt:=Try.f55.ntmps) (id:=0) (σ:=Value) (n:=n) (Inv:=fun i S M1=>Ext M0 M1/\aB M1/\cT 3 1 M0 [bB,C,K,G] (eJ n cur gone .inn v i).length ((eJ n cur gone .inn v i).map i64) S M1)
  (F:=fun i S=> [(0,pt bB 0),(1,(.func (.func 57) ⟨[]⟩ ⟨[]⟩)),(2,i64 v),(7,S),(15,aC G 0 n cg),(16,i64 n),(17,i64 ((i:Nat):Int))])
  (O:=fun S=> [(7,S)])
  (by
   rintro i S M1 hi ⟨X1,a7,a2⟩
   have hln:=lK n cur gone .inn v i
   have b0:gone[i]?=some (cH gone i):=by unfold cH;rw[List.getElem?_eq_getElem (by omega)];rfl
   have a3:(gone.map Value.bool)[0+((i:Int):Int).toNat*1]?=some (.bool (cH gone i)):=by simp [b0]
   cases hq:cH gone i with
   |true=>
    rw[hq] at a3
    obtain⟨T1,h1,h2⟩:=roIg bB C K G n ck cg c0 c1 c2 c3 c4 c5 cl cur gone v i S (eJ n cur gone .inn v i) true (M:=M1) X1 a0 a4 a6 a5 a1 a8 hv a9 a2 (by omega) (decide_eq_true (by omega)) rfl a3
    rw[aX (by omega)] at h2
    refine⟨S,T1,M1,h1,h2,X1,a7,?_⟩
    rw[show eJ n cur gone .inn v (i+1)=eJ n cur gone .inn v i by rw[eJ,hq];simp]
    exact a2
   |false=>
    rw[hq] at a3
    obtain⟨T1,M2,S2,h1,h2,h3,h4,h5⟩:=roIs bB C K G n ck cg c0 c1 c2 c3 c4 c5 cl cur gone v i S (eJ n cur gone .inn v i) false a7 X1 a0 a4 a6 a5 a1 a8 hv a9 a2 (by omega) (decide_eq_true (by omega)) rfl a3
    rw[aX (by omega)] at h2
    refine⟨S2,T1,M2,h1,h2,h3,h4,?_⟩
    rw[show eJ n cur gone .inn v (i+1)=eJ n cur gone .inn v i++gN n cur .inn v i 5 by rw[eJ,hq];simp]
    exact h5)
  (by
   rintro S M1 ⟨X1,a7,a2⟩
   exact roIx bB C K G n ck cg c0 c1 c2 c3 c4 c5 cl cur gone v n S (M:=M1) X1 a0 a4 a6 a5 (decide_eq_false (by omega)))
  n 0 (by omega) (s:=eZ) (M:=M) ⟨X0,hM,.inl ⟨rfl,rfl,rfl⟩⟩
 exact⟨S',M',h1,h2,h3,h4⟩
theorem hw55I(bB C K G n ck cg:Nat)(c0 c1 c2 c3 c4 c5 cl:Value)(cur:List Int)(gone:List Bool)(v:Nat){M:aA}(hM:aB M)(a0:M.get bB=some ⟨[c0,c1,c2,c3,c4,c5,pt C 0,aC G 0 n cg],53,8,0,true⟩)(a2:M.get C=some ⟨[i64 n,aC K 0 cur.length ck,cl],73,3,0,true⟩)(a4:M.get K=some ⟨cur.map i64,3,1,0,true⟩)(a3:M.get G=some ⟨gone.map Value.bool,4,1,0,true⟩)(a1:n<=60)(a8:cur.length=n*n*5)(hv:v<n)(a9:gone.length=n): ∃v_ M',Ev Try.prog [] 55 [pt bB 0,.func (.func 57) ⟨[]⟩ ⟨[]⟩,i64 v] M v_ M'/\Ext M M'/\aB M'/\iQ aL (cO n cur gone .inn v) M.next v_ M':=by
 have a5:=a0
 obtain⟨S1,M2,a6,X4,a7,A6⟩:=Zm hM (Ext.refl M) a0 a2 a4 a3 a1 a8 hv a9
 exact⟨S1,M2,Ev.told_tmp (tb:=[0]) (n:=60) (F:=[aR 11 (aC G 0 n cg),.blk 16 [0,1,2,7,15,16,17] .normal (fr [(7,S1)]) M2]) aG aF Try.func55 Ub (by kernel_rfl) rK55 (fun B=>zJ (gS B) 0 a6) (fun _ h=>cD h) (by kernel_rfl) (hk (lO 7 Vi a5 rfl) (hq (.blk 0 (.loop (q55.loopAt 0)) Try.f55.ntmps [0,1,2,7,15,16,17] [some (pt bB 0),some (.func (.func 57) ⟨[]⟩ ⟨[]⟩),some (i64 (v:Int)),some eZ,some (aC G 0 n cg),some (i64 (n:Int)),some (i64 0)] M .normal (fr [(7,S1)]) M2) (fP rfl) hn)),X4,a7,wR A6 (by have h9:(cO n cur gone .inn v).length<=5*n:=lK n cur gone .inn v n;omega)⟩
def Xw:Go.Am.wQ->FuncId
 | .out=>56
 | .inn=>57
def Iq(w:Go.Am.wQ)(v:Value)(_:aA):Prop:=v= .func (.func (Xw w)) ⟨[]⟩ ⟨[]⟩
instance:AP Iq:=⟨fun{x y v _} h k=>by unfold Iq at h k;rw[h] at k;cases x<;>cases y<;>first|rfl|(simp [Xw] at k),fun _ h=>h⟩
abbrev Q55:=FC (hZ (Ve pBr Iq pN) fun x:(Nat×List Int×List Bool)×Go.Am.wQ×Nat=>x.1.1<=60/\x.1.2.1.length=x.1.1*x.1.1*5/\x.2.2<x.1.1/\x.1.2.2.length=x.1.1) (iQ aL) (fun x=>cO x.1.1 x.1.2.1 x.1.2.2 x.2.1 x.2.2)
theorem Sh{x:(Nat×List Int×List Bool)×Go.Am.wQ×Nat}{lv:List Value}{M:aA}(hM:aB M)(h:(hZ (Ve pBr Iq pN) fun x:(Nat×List Int×List Bool)×Go.Am.wQ×Nat=>x.1.1<=60/\x.1.2.1.length=x.1.1*x.1.1*5/\x.2.2<x.1.1/\x.1.2.2.length=x.1.1) x lv M): ∃v M',lM Try.prog [] 55 Q55 lv M v M':=by
 refine FC.con h ?_
 obtain⟨⟨g0,g1,g2,rfl,k0,k1,k2⟩,h1,h2,h3,h4⟩:=h
 obtain⟨⟨n,cur,gone⟩,w,v⟩:=x
 obtain rfl:=k1
 obtain rfl:=k2
 obtain⟨bB,C,G,cg,c0,c1,c2,c3,c4,c5,rfl,gB,⟨C',K,ck,cl,e,gC,gK⟩,gG⟩:=k0
 simp only [pt,Value.pointer.injEq,Option.some.injEq,Addr.mk.injEq,and_true] at e
 subst e
 cases w with
 |out=>
  obtain⟨v',M',q1,q2,_,q3⟩:=hw55O bB C K G n ck cg c0 c1 c2 c3 c4 c5 cl cur gone v hM gB gC gK gG h1 h2 h3 h4
  exact⟨v',M',q1,q2,q3⟩
 |inn=>
  obtain⟨v',M',q1,q2,_,q3⟩:=hw55I bB C K G n ck cg c0 c1 c2 c3 c4 c5 cl cur gone v hM gB gC gK gG h1 h2 h3 h4
  exact⟨v',M',q1,q2,q3⟩
end Go.Proofs.Ytdaglldahidmbaa
