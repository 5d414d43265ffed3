/-
  Package hier: each of its laws for every argument; no conditions. The last text states which.
-/
import Derived.Test.YtdaglldahidmbaaGAmMemo
import Derived.Test.YtdaglldahidmbaaGAmTn
import Derived.Test.YtdaglldahidmbaaGVB
import Derived.Test.YtdaglldahidmbaaGVPC
set_option linter.unusedVariables false
set_option linter.unusedSimpArgs false
open Go Go.Am Go.Proofs
namespace Go.Proofs.Ytdaglldahidmbaa
set_option maxRecDepth 100000
def Kr(k:Nat):Oo:=⟨[aD 0 0 1 2,i64 k],[⟨[i64 (-1)],3,1,0,true⟩],aD 1 0 k (k+1),[1],[⟨List.replicate k (i64 (-1)),3,1,0,true⟩]⟩
def cA(k:Nat):Prop:=Gj Try.prog (sM [] []) 300 44 (Kr k)=some ((Kr k).v0,(Kr k).news.map some,true)
theorem rp1:cA 1/\cA (1*1*5):=⟨by unfold cA;kernel_rfl,by unfold cA;kernel_rfl⟩
theorem rp2:cA 2/\cA (2*2*5):=⟨by unfold cA;kernel_rfl,by unfold cA;kernel_rfl⟩
theorem rp3:cA 3/\cA (3*3*5):=⟨by unfold cA;kernel_rfl,by unfold cA;kernel_rfl⟩
theorem rp4:cA 4/\cA (4*4*5):=⟨by unfold cA;kernel_rfl,by unfold cA;kernel_rfl⟩
theorem rp5:cA 5/\cA (5*5*5):=⟨by unfold cA;kernel_rfl,by unfold cA;kernel_rfl⟩
theorem rp6:cA 6/\cA (6*6*5):=⟨by unfold cA;kernel_rfl,by unfold cA;kernel_rfl⟩
theorem rp7:cA 7/\cA (7*7*5):=⟨by unfold cA;kernel_rfl,by unfold cA;kernel_rfl⟩
theorem rp8:cA 8/\cA (8*8*5):=⟨by unfold cA;kernel_rfl,by unfold cA;kernel_rfl⟩
theorem rp9:cA 9/\cA (9*9*5):=⟨by unfold cA;kernel_rfl,by unfold cA;kernel_rfl⟩
theorem rp10:cA 10/\cA (10*10*5):=⟨by unfold cA;kernel_rfl,by unfold cA;kernel_rfl⟩
theorem rp11:cA 11/\cA (11*11*5):=⟨by unfold cA;kernel_rfl,by unfold cA;kernel_rfl⟩
theorem rp12:cA 12/\cA (12*12*5):=⟨by unfold cA;kernel_rfl,by unfold cA;kernel_rfl⟩
theorem rp13:cA 13/\cA (13*13*5):=⟨by unfold cA;kernel_rfl,by unfold cA;kernel_rfl⟩
theorem rp14:cA 14/\cA (14*14*5):=⟨by unfold cA;kernel_rfl,by unfold cA;kernel_rfl⟩
theorem rp15:cA 15/\cA (15*15*5):=⟨by unfold cA;kernel_rfl,by unfold cA;kernel_rfl⟩
theorem rp16:cA 16/\cA (16*16*5):=⟨by unfold cA;kernel_rfl,by unfold cA;kernel_rfl⟩
theorem rp17:cA 17/\cA (17*17*5):=⟨by unfold cA;kernel_rfl,by unfold cA;kernel_rfl⟩
theorem rp18:cA 18/\cA (18*18*5):=⟨by unfold cA;kernel_rfl,by unfold cA;kernel_rfl⟩
theorem rp19:cA 19/\cA (19*19*5):=⟨by unfold cA;kernel_rfl,by unfold cA;kernel_rfl⟩
theorem rp20:cA 20/\cA (20*20*5):=⟨by unfold cA;kernel_rfl,by unfold cA;kernel_rfl⟩
theorem rp21:cA 21/\cA (21*21*5):=⟨by unfold cA;kernel_rfl,by unfold cA;kernel_rfl⟩
theorem rp22:cA 22/\cA (22*22*5):=⟨by unfold cA;kernel_rfl,by unfold cA;kernel_rfl⟩
theorem rp23:cA 23/\cA (23*23*5):=⟨by unfold cA;kernel_rfl,by unfold cA;kernel_rfl⟩
theorem rp24:cA 24/\cA (24*24*5):=⟨by unfold cA;kernel_rfl,by unfold cA;kernel_rfl⟩
theorem Rm(n:Nat)(h:1<=n/\n<=24):cA n/\cA (n*n*5):=by
 have h2:n=1\/n=2\/n=3\/n=4\/n=5\/n=6\/n=7\/n=8\/n=9\/n=10\/n=11\/n=12\/n=13\/n=14\/n=15\/n=16\/n=17\/n=18\/n=19\/n=20\/n=21\/n=22\/n=23\/n=24:=by omega
 rcases h2 with rfl|rfl|rfl|rfl|rfl|rfl|rfl|rfl|rfl|rfl|rfl|rfl|rfl|rfl|rfl|rfl|rfl|rfl|rfl|rfl|rfl|rfl|rfl|rfl
 ·exact rp1
 ·exact rp2
 ·exact rp3
 ·exact rp4
 ·exact rp5
 ·exact rp6
 ·exact rp7
 ·exact rp8
 ·exact rp9
 ·exact rp10
 ·exact rp11
 ·exact rp12
 ·exact rp13
 ·exact rp14
 ·exact rp15
 ·exact rp16
 ·exact rp17
 ·exact rp18
 ·exact rp19
 ·exact rp20
 ·exact rp21
 ·exact rp22
 ·exact rp23
 ·exact rp24
theorem gm{b k:Nat}{M:aA}(hg:M.get b=some ⟨[i64 (-1)],3,1,0,true⟩):Im (Kr k) [aD b 0 1 2,i64 k] M=some (aD M.next 0 k (k+1),M.alloc ⟨List.replicate k (i64 (-1)),3,1,0,true⟩):=by
 have h1:uC [aD b 0 1 2,i64 k]= [b]:=rfl
 have t1:jE (pX 0 [b]) b=some 0:=by simp [pX,jE,Nat.beq_refl]
 have h2:jW (pX 0 [b]) [aD b 0 1 2,i64 k]=some (Kr k).args0:=by
  simp only [jW,lT,mJ,t1]
  rfl
 have h3:Cx (Kr k).args0 (Kr k).args0=true:=by
  simp only [Kr,Cx,Fh,Ac,i64,Nat.beq_refl]
  simp
 have h4:qP M [b] (Kr k).blks=true:=by
  simp only [Kr,qP,hg]
  rfl
 have t2:jE (kT M.next (Kr k).newsS) 1=some M.next:=by simp [Kr,kT,jE]
 have h5:lT (kT M.next (Kr k).newsS) (Kr k).v0=some (aD M.next 0 k (k+1)):=by
  show lT (kT M.next (Kr k).newsS) (aD 1 0 k (k+1))=_
  simp only [lT,mJ,t2]
 unfold Im
 rw[h1,h2,h4,h5]
 show(bif Go.Am.hQ [b]&&Cx (Kr k).args0 (Kr k).args0&&true then _ else none)=_
 rw[h3]
 rfl
def pRep(k nx:Nat)(v:Value)(M:aA):Prop:= ∃b,v=aD b 0 k (k+1)/\nx<=b/\M.get b=some ⟨List.replicate k (i64 (-1)),3,1,0,true⟩
instance:AQ pRep:=⟨fun hE ⟨b,h1,h2,h3⟩=>⟨b,h1,h2,hE _ _ h3⟩⟩
def Ww(_:Unit)(v:Value)(M:aA):Prop:= ∃b,v=aD b 0 1 2/\M.get b=some ⟨[i64 (-1)],3,1,0,true⟩
instance:AP Ww:=⟨fun _ _=>rfl,fun hE ⟨b,h1,h2⟩=>⟨b,h1,hE _ _ h2⟩⟩
theorem aAA(k:Nat):Gk (Kr k)=true:=by
 have:cX (List.replicate k (i64 (-1)))=true:=by
  induction k with
  |zero=>rfl
  |succ k ih=>rw[List.replicate_succ];simp only [cX,ih,i64];rfl
 unfold Gk Kr
 simp only [xK,this]
 rfl
def Up(k:Nat):Prop:= ∃n,(1<=n/\n<=24)/\(k=n\/k=n*n*5)
abbrev Q44:=FC (iG (mG Ww pN) fun x=>Up x.2) pRep (fun x=>x.2)
theorem Pn{x:Unit×Nat}{lv:List Value}{M:aA}(hM:aB M)(h:(iG (mG Ww pN) fun x=>Up x.2) x lv M): ∃v M',lQ Try.prog [] 44 Q44 lv M v M':=by
 refine FC.con h ?_
 obtain⟨⟨g0,g1,rfl,k0,k1⟩,n,hn,hk⟩:=h
 obtain⟨_,k⟩:=x
 obtain rfl:=k1
 obtain⟨b,rfl,hg⟩:=k0
 simp only at hk
 have hr:cA k:=by exact hk.elim (fun e=>e▸(Rm _ hn).1) (fun e=>e▸(Rm _ hn).2)
 have hs: ∀B,cV Try.prog [] B 44 (Im (Kr k)):=fun B=>cV.memo aJ aI (Kr k) (aG Try.prog) (aAA k) hr
 exact⟨_,_,Ev.of_spec hs (gm hg),Ext.alloc M _,M.next,rfl,Nat.le_refl _,lY hM _ rfl⟩
theorem rK72:Try.f72.results= #[.tmp 8]:=by kernel_rfl
theorem w72(C K c n:Nat)(cl:Value)(cur:List Int)(f t m:Int){M:aA}(hM:aB M)(gC:M.get C=some ⟨[i64 n,aD K 0 cur.length c,cl],73,3,0,true⟩)(gK:M.get K=some ⟨cur.map i64,3,1,0,true⟩): ∃v_ M',Ev Try.prog [] 72 [pt C 0,i64 f,i64 t,i64 m] M v_ M'/\Ext M M'/\aB M'/\v_=(i64 (IntKind.wrap .i64 ((IntKind.wrap .i64 ((IntKind.wrap .i64 ((IntKind.wrap .i64 (f*(n:Int)))+t))*(5:Int)))+m))):=by
 exact⟨i64 (IntKind.wrap .i64 ((IntKind.wrap .i64 ((IntKind.wrap .i64 ((IntKind.wrap .i64 (f*(n:Int)))+t))*(5:Int)))+m)),M,Ev.told_tmp (tb:=[]) (n:=60) (F:=[aU 11 (i64 (n:Int))]) aJ aI Try.func72 Xv (by kernel_rfl) rK72 (aG Try.prog) (fun _ _=>rfl) (by kernel_rfl) (hk (lC (o:=0) cO gC rfl) hn),Ext.refl M,hM,rfl⟩
abbrev Ry:=FC (iG (Uv (pK 73) pI pI pI) fun x:(Nat×List Int)×Int×Int×Int=>x.1.1<=60/\(0<=x.2.1/\x.2.1<x.1.1)/\(0<=x.2.2.1/\x.2.2.1<x.1.1)/\(0<=x.2.2.2/\x.2.2.2<5)) (plain pI) (fun x=>dP x.1.1 x.2.1 x.2.2.1 x.2.2.2)
theorem yP{x:(Nat×List Int)×Int×Int×Int}{lv:List Value}{M:aA}(hM:aB M)(h:(iG (Uv (pK 73) pI pI pI) fun x:(Nat×List Int)×Int×Int×Int=>x.1.1<=60/\(0<=x.2.1/\x.2.1<x.1.1)/\(0<=x.2.2.1/\x.2.2.1<x.1.1)/\(0<=x.2.2.2/\x.2.2.2<5)) x lv M): ∃v M',lQ Try.prog [] 72 Ry lv M v M':=by
 refine FC.con h ?_
 obtain⟨⟨g0,g1,g2,g3,rfl,k0,k1,k2,k3⟩,hok⟩:=h
 obtain⟨⟨n,cur⟩,f,t,m⟩:=x
 obtain rfl:=k1
 obtain rfl:=k2
 obtain rfl:=k3
 obtain⟨C,K,c,cl,rfl,gC,gK⟩:=k0
 obtain⟨v,M',h1,h2,_,h3⟩:=w72 C K c n cl cur f t m hM gC gK
 exact⟨v,M',h1,h2,by rw[h3,Te hok.1 hok.2.1 hok.2.2.1 hok.2.2.2];rfl⟩
theorem rK56:Try.f56.results= #[.tmp 8]:=by kernel_rfl
theorem w56(C K c n v u m:Nat)(cl:Value)(cur:List Int)(z:Int){M:aA}(hM:aB M)(gC:M.get C=some ⟨[i64 n,aD K 0 cur.length c,cl],73,3,0,true⟩)(gK:M.get K=some ⟨cur.map i64,3,1,0,true⟩)(hr0:n<=60/\(0<=(v:Int)/\(v:Int)<(n:Int))/\(0<=(u:Int)/\(u:Int)<(n:Int))/\(0<=(m:Int)/\(m:Int)<5))(hi1:0<=(dP (n:Int) (v:Int) (u:Int) (m:Int):Int)/\(dP (n:Int) (v:Int) (u:Int) (m:Int):Int)<cur.length)(hc2:(cur.map i64)[0+(dP (n:Int) (v:Int) (u:Int) (m:Int):Int).toNat*1]?=some (i64 z)): ∃v_ M',Ev Try.prog [] 56 [pt C 0,i64 v,i64 u,i64 m] M v_ M'/\Ext M M'/\aB M'/\v_=i64 z:=by
 obtain⟨R1,a2⟩: ∃m:aA,m=aA.mk M.blks M.next M.hide []:=⟨_,rfl⟩
 have X3:Ext (aA.mk M.blks M.next M.hide []) R1:=by rw[a2];exact Ext.aside (Ext.refl M)
 have b6:R1.log= []:=by rw[a2]
 have b4:aB R1:=by rw[a2];exact aB.log hM
 have ltCM:C<M.next:=by have h:=aA.lt_of_get gC;exact h
 have g6:R1.get C=some ⟨[i64 (n:Int),aD K 0 cur.length c,cl],73,3,0,true⟩:=by rw[a2];exact gC
 have g7:R1.get K=some ⟨cur.map i64,3,1,0,true⟩:=by rw[a2];exact gK
 obtain⟨w8,N9,a0,b7,b5,a9,a8,a5,b0⟩:=aH (x:=((n,cur),(v:Int),(u:Int),(m:Int))) b4 yP (⟨⟨_,_,_,_,rfl,⟨C,K,c,cl,rfl,g6,g7⟩,rfl,rfl,rfl⟩,hr0⟩)
 have b3:=a8.old g7
 have b2:w8=i64 (dP (n:Int) (v:Int) (u:Int) (m:Int)):=b0
 subst b2
 have a7:a0.log= []:=by rw[<-a9];exact b6
 have a4:=X3.trans a8
 obtain⟨a3,a1⟩: ∃m:aA,m=(aA.mk a0.blks a0.next a0.hide (a0.log++M.log)):=⟨_,rfl⟩
 have b1:Ext M a3:=by rw[a1];exact Ext.join (Ext.refl M) (a4)
 have a6:aB a3:=by rw[a1];exact a5
 have hraw:oT Try.prog [] 60 Try.f56 q56 [pt C 0,i64 v,i64 u,i64 m] M [aU 9 (aD K 0 cur.length c),bL 19 (i64 (dP (n:Int) (v:Int) (u:Int) (m:Int))) a0,aM 21,aU 23 (i64 z)] 8=some (.ret,some (i64 z),aA.mk a0.blks a0.next M.hide (a0.log++M.log),[qL 22 C 1 (aA.mk M.blks M.next M.hide []) (aD K 0 cur.length c),qT (Nat.blt C M.next),qC 72 [pt C 0,i64 (v:Int),i64 (u:Int),i64 (m:Int)] (aA.mk M.blks M.next M.hide []) (i64 (dP (n:Int) (v:Int) (u:Int) (m:Int))) a0,.q (.inb (dP (n:Int) (v:Int) (u:Int) (m:Int)) cur.length) (fM true),qL 3 K (0+(dP (n:Int) (v:Int) (u:Int) (m:Int):Int).toNat*1) (aA.mk a0.blks a0.next M.hide a0.log) (i64 z),qT (cQ [C] a0.log)]):=by kernel_rfl
 have b8:aA.mk M.blks M.next M.hide []=R1:=a2.symm
 have b9:aA.mk a0.blks a0.next M.hide a0.log=a0:=by rw[(show M.hide=a0.hide from((Ext.refl M).hide.trans (a4).hide.symm))]
 have c0:(aA.mk a0.blks a0.next M.hide (a0.log++M.log))=(aA.mk a0.blks a0.next a0.hide (a0.log++M.log)):=by rw[(show M.hide=a0.hide from((Ext.refl M).hide.trans (a4).hide.symm))]
 have c1:(aA.mk a0.blks a0.next a0.hide (a0.log++M.log))=a3:=a1.symm
 try rw[b8] at hraw
 try rw[b9] at hraw
 try rw[c0] at hraw
 try rw[c1] at hraw
 exact⟨i64 z,a3,Ev.told_tmp aJ aI Try.func56 Xr (by kernel_rfl) rK56 (fun B=>lO (gF 72 Ry (gQ _))) (fun _ _=>rfl) hraw (hk (lC hI g6 rfl) (hk (mE ltCM) (hk (aN rfl b7 b5 a9) (hk (eW hi1.1 hi1.2) (hk (iP (bW (a:=⟨K,0+(dP (n:Int) (v:Int) (u:Int) (m:Int):Int).toNat*1,none⟩) cO b3 hc2)) (hk (dZ (by rw[a7];simp<;>omega)) hn)))))),b1,a6,rfl⟩
abbrev Q56:=FC (iG (Uv (pK 73) pN pN pN) fun x:(Nat×List Int)×Nat×Nat×Nat=>x.1.1<=60/\x.1.2.length=x.1.1*x.1.1*5/\x.2.1<x.1.1/\x.2.2.1<x.1.1/\x.2.2.2<5) (plain pI) (fun x=>bC x.1.2 (bX x.1.1 .out x.2.1 x.2.2.1 x.2.2.2))
theorem Ue{x:(Nat×List Int)×Nat×Nat×Nat}{lv:List Value}{M:aA}(hM:aB M)(h:(iG (Uv (pK 73) pN pN pN) fun x:(Nat×List Int)×Nat×Nat×Nat=>x.1.1<=60/\x.1.2.length=x.1.1*x.1.1*5/\x.2.1<x.1.1/\x.2.2.1<x.1.1/\x.2.2.2<5) x lv M): ∃v M',lQ Try.prog [] 56 Q56 lv M v M':=by
 refine FC.con h ?_
 obtain⟨⟨g0,g1,g2,g3,rfl,k0,k1,k2,k3⟩,hn,hl,hv,hu,hm⟩:=h
 obtain⟨⟨n,cur⟩,v,u,m⟩:=x
 obtain rfl:=k1
 obtain rfl:=k2
 obtain rfl:=k3
 obtain⟨C,K,c,cl,rfl,gC,gK⟩:=k0
 simp only at hn hl hv hu hm gC gK
 have hk:=xR (w:= .out) hv hu hm
 have hs:=kK (cur:=cur) (by rw[hl];exact hk)
 have e0:dP (n:Int) (v:Int) (u:Int) (m:Int)=((bX n .out v u m:Nat):Int):=by unfold bX dP;push_cast;rfl
 obtain⟨v',M',h1,h2,_,h3⟩:=w56 C K c n v u m cl cur (bC cur (bX n .out v u m)) hM gC gK ⟨hn,by omega,by omega,by omega⟩ (by rw[e0];omega) (by rw[e0];simp [hs])
 exact⟨v',M',h1,h2,h3⟩
theorem rK57:Try.f57.results= #[.tmp 8]:=by kernel_rfl
theorem w57(C K c n v u m:Nat)(cl:Value)(cur:List Int)(z:Int){M:aA}(hM:aB M)(gC:M.get C=some ⟨[i64 n,aD K 0 cur.length c,cl],73,3,0,true⟩)(gK:M.get K=some ⟨cur.map i64,3,1,0,true⟩)(hr0:n<=60/\(0<=(u:Int)/\(u:Int)<(n:Int))/\(0<=(v:Int)/\(v:Int)<(n:Int))/\(0<=(m:Int)/\(m:Int)<5))(hi1:0<=(dP (n:Int) (u:Int) (v:Int) (m:Int):Int)/\(dP (n:Int) (u:Int) (v:Int) (m:Int):Int)<cur.length)(hc2:(cur.map i64)[0+(dP (n:Int) (u:Int) (v:Int) (m:Int):Int).toNat*1]?=some (i64 z)): ∃v_ M',Ev Try.prog [] 57 [pt C 0,i64 v,i64 u,i64 m] M v_ M'/\Ext M M'/\aB M'/\v_=i64 z:=by
 obtain⟨R1,a2⟩: ∃m:aA,m=aA.mk M.blks M.next M.hide []:=⟨_,rfl⟩
 have X3:Ext (aA.mk M.blks M.next M.hide []) R1:=by rw[a2];exact Ext.aside (Ext.refl M)
 have b6:R1.log= []:=by rw[a2]
 have b4:aB R1:=by rw[a2];exact aB.log hM
 have ltCM:C<M.next:=by have h:=aA.lt_of_get gC;exact h
 have g6:R1.get C=some ⟨[i64 (n:Int),aD K 0 cur.length c,cl],73,3,0,true⟩:=by rw[a2];exact gC
 have g7:R1.get K=some ⟨cur.map i64,3,1,0,true⟩:=by rw[a2];exact gK
 obtain⟨w8,N9,a0,b7,b5,a9,a8,a5,b0⟩:=aH (x:=((n,cur),(u:Int),(v:Int),(m:Int))) b4 yP (⟨⟨_,_,_,_,rfl,⟨C,K,c,cl,rfl,g6,g7⟩,rfl,rfl,rfl⟩,hr0⟩)
 have b3:=a8.old g7
 have b2:w8=i64 (dP (n:Int) (u:Int) (v:Int) (m:Int)):=b0
 subst b2
 have a7:a0.log= []:=by rw[<-a9];exact b6
 have a4:=X3.trans a8
 obtain⟨a3,a1⟩: ∃m:aA,m=(aA.mk a0.blks a0.next a0.hide (a0.log++M.log)):=⟨_,rfl⟩
 have b1:Ext M a3:=by rw[a1];exact Ext.join (Ext.refl M) (a4)
 have a6:aB a3:=by rw[a1];exact a5
 have hraw:oT Try.prog [] 60 Try.f57 q57 [pt C 0,i64 v,i64 u,i64 m] M [aU 9 (aD K 0 cur.length c),bL 19 (i64 (dP (n:Int) (u:Int) (v:Int) (m:Int))) a0,aM 21,aU 23 (i64 z)] 8=some (.ret,some (i64 z),aA.mk a0.blks a0.next M.hide (a0.log++M.log),[qL 22 C 1 (aA.mk M.blks M.next M.hide []) (aD K 0 cur.length c),qT (Nat.blt C M.next),qC 72 [pt C 0,i64 (u:Int),i64 (v:Int),i64 (m:Int)] (aA.mk M.blks M.next M.hide []) (i64 (dP (n:Int) (u:Int) (v:Int) (m:Int))) a0,.q (.inb (dP (n:Int) (u:Int) (v:Int) (m:Int)) cur.length) (fM true),qL 3 K (0+(dP (n:Int) (u:Int) (v:Int) (m:Int):Int).toNat*1) (aA.mk a0.blks a0.next M.hide a0.log) (i64 z),qT (cQ [C] a0.log)]):=by kernel_rfl
 have b8:aA.mk M.blks M.next M.hide []=R1:=a2.symm
 have b9:aA.mk a0.blks a0.next M.hide a0.log=a0:=by rw[(show M.hide=a0.hide from((Ext.refl M).hide.trans (a4).hide.symm))]
 have c0:(aA.mk a0.blks a0.next M.hide (a0.log++M.log))=(aA.mk a0.blks a0.next a0.hide (a0.log++M.log)):=by rw[(show M.hide=a0.hide from((Ext.refl M).hide.trans (a4).hide.symm))]
 have c1:(aA.mk a0.blks a0.next a0.hide (a0.log++M.log))=a3:=a1.symm
 try rw[b8] at hraw
 try rw[b9] at hraw
 try rw[c0] at hraw
 try rw[c1] at hraw
 exact⟨i64 z,a3,Ev.told_tmp aJ aI Try.func57 Xs (by kernel_rfl) rK57 (fun B=>lO (gF 72 Ry (gQ _))) (fun _ _=>rfl) hraw (hk (lC hI g6 rfl) (hk (mE ltCM) (hk (aN rfl b7 b5 a9) (hk (eW hi1.1 hi1.2) (hk (iP (bW (a:=⟨K,0+(dP (n:Int) (u:Int) (v:Int) (m:Int):Int).toNat*1,none⟩) cO b3 hc2)) (hk (dZ (by rw[a7];simp<;>omega)) hn)))))),b1,a6,rfl⟩
abbrev Q57:=FC (iG (Uv (pK 73) pN pN pN) fun x:(Nat×List Int)×Nat×Nat×Nat=>x.1.1<=60/\x.1.2.length=x.1.1*x.1.1*5/\x.2.1<x.1.1/\x.2.2.1<x.1.1/\x.2.2.2<5) (plain pI) (fun x=>bC x.1.2 (bX x.1.1 .inn x.2.1 x.2.2.1 x.2.2.2))
theorem Uf{x:(Nat×List Int)×Nat×Nat×Nat}{lv:List Value}{M:aA}(hM:aB M)(h:(iG (Uv (pK 73) pN pN pN) fun x:(Nat×List Int)×Nat×Nat×Nat=>x.1.1<=60/\x.1.2.length=x.1.1*x.1.1*5/\x.2.1<x.1.1/\x.2.2.1<x.1.1/\x.2.2.2<5) x lv M): ∃v M',lQ Try.prog [] 57 Q57 lv M v M':=by
 refine FC.con h ?_
 obtain⟨⟨g0,g1,g2,g3,rfl,k0,k1,k2,k3⟩,hn,hl,hv,hu,hm⟩:=h
 obtain⟨⟨n,cur⟩,v,u,m⟩:=x
 obtain rfl:=k1
 obtain rfl:=k2
 obtain rfl:=k3
 obtain⟨C,K,c,cl,rfl,gC,gK⟩:=k0
 simp only at hn hl hv hu hm gC gK
 have hk:=xR (w:= .inn) hv hu hm
 have hs:=kK (cur:=cur) (by rw[hl];exact hk)
 have e0:dP (n:Int) (u:Int) (v:Int) (m:Int)=((bX n .inn v u m:Nat):Int):=by unfold bX dP;push_cast;rfl
 obtain⟨v',M',h1,h2,_,h3⟩:=w57 C K c n v u m cl cur (bC cur (bX n .inn v u m)) hM gC gK ⟨hn,by omega,by omega,by omega⟩ (by rw[e0];omega) (by rw[e0];simp [hs])
 exact⟨v',M',h1,h2,h3⟩
theorem lR:(Try.prog.underlying 28).map dX=some false:=by kernel_rfl
theorem dS28:(Try.prog.info? 28).map (·.size)=some 1:=by kernel_rfl
theorem Kz:(Try.prog.underlying 42).map dX=some true:=by kernel_rfl
theorem As:(Try.prog.info? 42).map (·.size)=some 7:=by kernel_rfl
theorem rK46:Try.f46.results= #[.tmp 4]:=by kernel_rfl
theorem w46(B ab ao ca:Nat)(c0 c1 c2 c4 c5 c6 c7:Value)(arcs:List A7)(i z:Int){M:aA}(hM:aB M)(gB:M.get B=some ⟨[c0,c1,c2,aD ab ao arcs.length ca,c4,c5,c6,c7],53,8,0,true⟩)(hi0:0<=(i:Int)/\(i:Int)<arcs.length)(hld1:aX Try.prog 3 ⟨ab,ao+(i:Int).toNat*7+3,none⟩ M=some (i64 z)): ∃v_ M',Ev Try.prog [] 46 [pt B 0,i64 i] M v_ M'/\Ext M M'/\aB M'/\v_=i64 z:=by
 exact⟨i64 z,M,Ev.told_tmp (tb:=[]) (n:=60) (F:=[aU 11 (aD ab ao arcs.length ca),aM 15,aU 19 (i64 z)]) aJ aI Try.func46 Xk (by kernel_rfl) rK46 (aG Try.prog) (fun _ _=>rfl) (by kernel_rfl) (hk (lC (o:=3) lR gB rfl) (hk (qI i arcs.length hi0.1 hi0.2) (hk (lD (hld1)) hn))),Ext.refl M,hM,rfl⟩
abbrev Q46:=FC (iG (mG (Ds 53) pI) fun x:List A7×Int=>0<=x.2/\x.2<(x.1.length:Int)) (plain pI) (fun x=>dK x.1 x.2)
theorem Tz{x:List A7×Int}{lv:List Value}{M:aA}(hM:aB M)(h:(iG (mG (Ds 53) pI) fun x:List A7×Int=>0<=x.2/\x.2<(x.1.length:Int)) x lv M): ∃v M',lQ Try.prog [] 46 Q46 lv M v M':=by
 refine FC.con h ?_
 obtain⟨⟨g0,g1,rfl,k0,k1⟩,hok⟩:=h
 obtain⟨arcs,i⟩:=x
 obtain rfl:=k1
 obtain⟨B,c0,c1,c2,c3,c4,c5,c6,c7,rfl,gB,hs⟩:=k0
 simp only at hok hs
 obtain⟨a,c,rfl⟩:=aK.form hs
 obtain⟨b,o,rfl,_⟩:=cD hs (by omega)
 have ht:arcs[i.toNat]?=some arcs[i.toNat]:=List.getElem?_eq_getElem (by omega)
 have hl:=iL (P:=Try.prog) (ty:=3) (j:=3) (v:=i64 arcs[i.toNat].c) hs ht rfl cO
 obtain⟨v,M',h1,h2,_,h3⟩:=w46 B b o c c0 c1 c2 c4 c5 c6 c7 arcs i arcs[i.toNat].c hM gB hok hl
 exact⟨v,M',h1,h2,by rw[h3,Kx ht];rfl⟩
theorem rK47:Try.f47.results= #[.tmp 4]:=by kernel_rfl
theorem w47(B eb eo ce:Nat)(c0 c2 c3 c4 c5 c6 c7:Value)(es:List E4)(i z:Int){M:aA}(hM:aB M)(gB:M.get B=some ⟨[c0,aD eb eo es.length ce,c2,c3,c4,c5,c6,c7],53,8,0,true⟩)(hi0:0<=(i:Int)/\(i:Int)<es.length)(hld1:aX Try.prog 3 ⟨eb,eo+(i:Int).toNat*4+3,none⟩ M=some (i64 z)): ∃v_ M',Ev Try.prog [] 47 [pt B 0,i64 i] M v_ M'/\Ext M M'/\aB M'/\v_=i64 z:=by
 exact⟨i64 z,M,Ev.told_tmp (tb:=[]) (n:=60) (F:=[aU 13 (aD eb eo es.length ce),aM 17,aU 21 (i64 z)]) aJ aI Try.func47 Xl (by kernel_rfl) rK47 (aG Try.prog) (fun _ _=>rfl) (by kernel_rfl) (hk (lC (o:=1) cP gB rfl) (hk (qI i es.length hi0.1 hi0.2) (hk (lD (hld1)) hn))),Ext.refl M,hM,rfl⟩
abbrev Q47:=FC (iG (mG (zX 53) pI) fun x:List E4×Int=>0<=x.2/\x.2<(x.1.length:Int)) (plain pI) (fun x=>fT x.1 x.2)
theorem Ua{x:List E4×Int}{lv:List Value}{M:aA}(hM:aB M)(h:(iG (mG (zX 53) pI) fun x:List E4×Int=>0<=x.2/\x.2<(x.1.length:Int)) x lv M): ∃v M',lQ Try.prog [] 47 Q47 lv M v M':=by
 refine FC.con h ?_
 obtain⟨⟨g0,g1,rfl,k0,k1⟩,hok⟩:=h
 obtain⟨es,i⟩:=x
 obtain rfl:=k1
 obtain⟨B,c0,c1,c2,c3,c4,c5,c6,c7,rfl,gB,hs⟩:=k0
 simp only at hok hs
 obtain⟨a,c,rfl⟩:=aK.form hs
 obtain⟨b,o,rfl,_⟩:=cD hs (by omega)
 have ht:es[i.toNat]?=some es[i.toNat]:=List.getElem?_eq_getElem (by omega)
 have hl:=iL (P:=Try.prog) (ty:=3) (j:=3) (v:=i64 es[i.toNat].c) hs ht rfl cO
 obtain⟨v,M',h1,h2,_,h3⟩:=w47 B b o c c0 c2 c3 c4 c5 c6 c7 es i es[i.toNat].c hM gB hok hl
 exact⟨v,M',h1,h2,by rw[h3,Ky ht];rfl⟩
theorem rK49:Try.f49.results= #[.cell 4 42]:=by kernel_rfl
theorem w49(eb eo ce:Nat)(es:List E4)(e:E4)(i:Int){M:aA}(hM:aB M)(hi0:0<=(i:Int)/\(i:Int)<es.length)(hld1:aX Try.prog 37 ⟨eb,eo+(i:Int).toNat*4,none⟩ M=some (.agg ⟨[i64 e.f,i64 e.t,i64 e.m,i64 e.c]⟩)): ∃v_ M',Ev Try.prog [] 49 [aD eb eo es.length ce,i64 i] M v_ M'/\Ext M M'/\aB M'/\v_= .agg ⟨kB (mA i e)⟩:=by
 obtain⟨b1,M2,b5,b9,g5,E6,c3⟩:=bG hM ⟨[i64 0,i64 0,i64 0,i64 0,i64 0,i64 0,i64 0],42,7,0,true⟩
 have c5:M.next<=b1:=by rw[<-b5];exact(Ext.refl M).next
 have X9:=(Ext.refl M).trans E6
 obtain⟨a0,a5,a2,a6,c0,b4,a8⟩:=bG c3 ⟨[i64 0,i64 0,i64 0,i64 0],37,4,0,true⟩
 have b3:M.next<=a0:=by rw[<-a2];exact X9.next
 have db1b10:b1≠a0:=by have:=aA.lt_of_get g5;omega
 have c1:=b4.old g5
 have b6:=X9.trans b4
 obtain⟨a3,q21,a1,b2,b7,a9,c6⟩:=bH (o:=0) (v:=(.agg ⟨[i64 e.f,i64 e.t,i64 e.m,i64 e.c]⟩)) (new:= [i64 e.f,i64 e.t,i64 e.m,i64 e.c]) b6 b3 a8 lS c0 rfl rfl (Nat.zero_le _) (Nat.le_of_ble_eq_true rfl) rfl
 replace a1:a3.get a0=some ⟨[i64 e.f,i64 e.t,i64 e.m,i64 e.c],37,4,0,true⟩:=a1
 have c2:=(b2 _ db1b10).trans c1
 obtain⟨a4,c8,a7,c4,b8,b0,c7⟩:=bH (o:=0) (v:=(.agg ⟨[i64 e.f,i64 e.t,i64 e.m,i64 e.c,i64 i,i64 0,i64 0]⟩)) (new:= [i64 e.f,i64 e.t,i64 e.m,i64 e.c,i64 i,i64 0,i64 0]) b7 c5 a9 As c2 rfl rfl (Nat.zero_le _) (Nat.le_of_ble_eq_true rfl) rfl
 replace a7:a4.get b1=some ⟨[i64 e.f,i64 e.t,i64 e.m,i64 e.c,i64 i,i64 0,i64 0],42,7,0,true⟩:=a7
 exact⟨.agg ⟨[i64 e.f,i64 e.t,i64 e.m,i64 e.c,i64 i,i64 0,i64 0]⟩,a4,Ev.told_cell (tb:=[]) (n:=60) (F:=[bL 1 (pt b1 0) M2,aM 7,aU 9 (.agg ⟨[i64 e.f,i64 e.t,i64 e.m,i64 e.c]⟩),bL 11 (pt a0 0) a5,lP 13 a3,aU 17 (i64 e.f),aU 21 (i64 e.t),aU 25 (i64 e.m),aU 29 (i64 e.c),lP 35 a4]) aJ aI Try.func49 Xm (by kernel_rfl) rK49 (aG Try.prog) (fun _ _=>rfl) (by kernel_rfl) (lZ (a:=⟨b1,0,none⟩) Kz As a7 rfl) (hq (.eq (dL Try.prog 42 M) (1,.val (pt b1 0),M2)) (bZ (by rw[<-b5,<-b9];kernel_rfl) Nat.one_ne_zero) (hk (qI i es.length hi0.1 hi0.2) (hk (lD (aE X9 hld1)) (hq (.eq (dL Try.prog 37 M2) (1,.val (pt a0 0),a5)) (bZ (by rw[<-a2,<-a6];kernel_rfl) Nat.one_ne_zero) (hq (qS 37 a0 0 (.agg ⟨[i64 e.f,i64 e.t,i64 e.m,i64 e.c]⟩) a5 a3) (eF q21) (hk (lC (o:=0) cO a1 rfl) (hk (lC (o:=1) cO a1 rfl) (hk (lC (o:=2) cO a1 rfl) (hk (lC (o:=3) cO a1 rfl) (hq (qS 42 b1 0 (.agg ⟨[i64 e.f,i64 e.t,i64 e.m,i64 e.c,i64 i,i64 0,i64 0]⟩) a3 a4) (eF c8) hn)))))))))),b8,b0,rfl⟩
abbrev Q49:=FC (iG (mG aV pI) fun x:List E4×Int=>0<=x.2/\x.2<(x.1.length:Int)) (plain Od) (fun x=>mA x.2 (Uk x.1 x.2))
theorem Ub{x:List E4×Int}{lv:List Value}{M:aA}(hM:aB M)(h:(iG (mG aV pI) fun x:List E4×Int=>0<=x.2/\x.2<(x.1.length:Int)) x lv M): ∃v M',lQ Try.prog [] 49 Q49 lv M v M':=by
 refine FC.con h ?_
 obtain⟨⟨g0,g1,rfl,hs,k1⟩,hok⟩:=h
 obtain⟨es,i⟩:=x
 obtain rfl:=k1
 simp only at hok hs
 obtain⟨a,c,rfl⟩:=aK.form hs
 obtain⟨b,o,rfl,_⟩:=cD hs (by omega)
 have ht:es[i.toNat]?=some es[i.toNat]:=List.getElem?_eq_getElem (by omega)
 have hl:=uV (P:=Try.prog) (ty:=37) hs ht tM lS
 obtain⟨v,M',h1,h2,_,h3⟩:=w49 b o c es es[i.toNat] i hM hok hl
 exact⟨v,M',h1,h2,by show Od (mA i (Uk es i)) _ _;rw[Au ht];exact h3⟩
theorem rK79:Try.f79.results= #[.cell 6 42]:=by kernel_rfl
theorem w79(ab ao ca:Nat)(arcs:List A7)(x y:A7)(ia ib:Int){M:aA}(hM:aB M)(hab:ab<M.next)(hi0:0<=(ia:Int)/\(ia:Int)<arcs.length)(hld1:aX Try.prog 42 ⟨ab,ao+(ia:Int).toNat*7,none⟩ M=some (.agg ⟨[i64 x.f,i64 x.t,i64 x.m,i64 x.c,i64 x.e,i64 x.a,i64 x.b]⟩))(hi2:0<=(ib:Int)/\(ib:Int)<arcs.length)(hld3:aX Try.prog 42 ⟨ab,ao+(ib:Int).toNat*7,none⟩ M=some (.agg ⟨[i64 y.f,i64 y.t,i64 y.m,i64 y.c,i64 y.e,i64 y.a,i64 y.b]⟩)): ∃v_ M',Ev Try.prog [] 79 [aD ab ao arcs.length ca,i64 ia,i64 ib] M v_ M'/\Ext M M'/\aB M'/\v_= .agg ⟨kB ⟨x.f,y.t,x.m,IntKind.wrap .i64 (x.c+y.c),-1,ia,ib⟩⟩:=by
 obtain⟨b1,M2,e7,f5,g5,E6,g4⟩:=bG hM ⟨[i64 0,i64 0,i64 0,i64 0,i64 0,i64 0,i64 0],42,7,0,true⟩
 have g7:M.next<=b1:=by rw[<-e7];exact(Ext.refl M).next
 have X9:=(Ext.refl M).trans E6
 obtain⟨a8,a2⟩: ∃m:aA,m=aA.mk M2.blks M2.next M2.hide []:=⟨_,rfl⟩
 have c0:Ext (aA.mk M.blks M.next M.hide []) a8:=by rw[a2];exact Ext.aside (X9)
 have d3:a8.log= []:=by rw[a2]
 have a9:a8.next=M2.next:=by rw[a2]
 have c6:aB a8:=by rw[a2];exact aB.log g4
 have b0:ab<M2.next:=Nat.lt_of_lt_of_le hab (X9).next
 have ltb1M2:b1<M2.next:=by have h:=aA.lt_of_get g5;exact h
 have e8:a8.get b1=some ⟨[i64 0,i64 0,i64 0,i64 0,i64 0,i64 0,i64 0],42,7,0,true⟩:=by rw[a2];exact g5
 obtain⟨a3,a5,b4,b6,e9,e2,c7⟩:=bG c6 ⟨[i64 0,i64 0,i64 0,i64 0,i64 0,i64 0,i64 0],42,7,0,true⟩
 have d8:M.next<=a3:=by rw[<-b4];exact c0.next
 have db1b16:b1≠a3:=by have:=aA.lt_of_get e8;omega
 have f0:=e2.old e8
 have d4:a5.log= []:=by rw[<-b6];exact d3
 have e3:=c0.trans e2
 obtain⟨a7,a1,b5,b7,f6,c1,c8⟩:=bG c7 ⟨[i64 0,i64 0,i64 0,i64 0,i64 0,i64 0,i64 0],42,7,0,true⟩
 have d9:M.next<=a7:=by rw[<-b5];exact e3.next
 have db1b27:b1≠a7:=by have:=aA.lt_of_get f0;omega
 have db16b27:a3≠a7:=by have:=aA.lt_of_get e9;omega
 have f7:=c1.old f0
 have f8:=c1.old e9
 have d5:a1.log= []:=by rw[<-b7];exact d4
 have e4:=e3.trans c1
 obtain⟨a6,g9,c2,b8,e5,c9,e0⟩:=bH (o:=0) (v:=(.agg ⟨[i64 x.f,i64 x.t,i64 x.m,i64 x.c,i64 x.e,i64 x.a,i64 x.b]⟩)) (new:= [i64 x.f,i64 x.t,i64 x.m,i64 x.c,i64 x.e,i64 x.a,i64 x.b]) e4 d8 c8 As f8 rfl rfl (Nat.zero_le _) (Nat.le_of_ble_eq_true rfl) rfl
 replace c2:a6.get a3=some ⟨[i64 x.f,i64 x.t,i64 x.m,i64 x.c,i64 x.e,i64 x.a,i64 x.b],42,7,0,true⟩:=c2
 have f9:=(b8 _ db1b16).trans f7
 have g0:=(b8 _ (Ne.symm db16b27)).trans f6
 have d6:a6.log= [a3]:=by rw[e0,d5]
 obtain⟨a0,q50,c3,b9,e6,d0,e1⟩:=bH (o:=0) (v:=(.agg ⟨[i64 y.f,i64 y.t,i64 y.m,i64 y.c,i64 y.e,i64 y.a,i64 y.b]⟩)) (new:= [i64 y.f,i64 y.t,i64 y.m,i64 y.c,i64 y.e,i64 y.a,i64 y.b]) e5 d9 c9 As g0 rfl rfl (Nat.zero_le _) (Nat.le_of_ble_eq_true rfl) rfl
 replace c3:a0.get a7=some ⟨[i64 y.f,i64 y.t,i64 y.m,i64 y.c,i64 y.e,i64 y.a,i64 y.b],42,7,0,true⟩:=c3
 have g1:=(b9 _ db1b27).trans f9
 have g2:=(b9 _ db16b27).trans c2
 have d7:a0.log= [a7,a3]:=by rw[e1,d6]
 obtain⟨b2,a4⟩: ∃m:aA,m=(aA.mk a0.blks a0.next a0.hide (a0.log++M2.log)):=⟨_,rfl⟩
 have f2:Ext M b2:=by rw[a4];exact Ext.join (X9) (e6)
 have d1:aB b2:=by rw[a4];exact d0
 have g3:b2.get b1=some ⟨[i64 0,i64 0,i64 0,i64 0,i64 0,i64 0,i64 0],42,7,0,true⟩:=by rw[a4];exact g1
 have c4:b2.get a3=some ⟨[i64 x.f,i64 x.t,i64 x.m,i64 x.c,i64 x.e,i64 x.a,i64 x.b],42,7,0,true⟩:=by rw[a4];exact g2
 have f1:b2.get a7=some ⟨[i64 y.f,i64 y.t,i64 y.m,i64 y.c,i64 y.e,i64 y.a,i64 y.b],42,7,0,true⟩:=by rw[a4];exact c3
 obtain⟨b3,h0,c5,g6,f3,d2,g8⟩:=bH (o:=0) (v:=(.agg ⟨[i64 x.f,i64 y.t,i64 x.m,i64 (IntKind.wrap .i64 (x.c+y.c)),i64 (-1),i64 ia,i64 ib]⟩)) (new:= [i64 x.f,i64 y.t,i64 x.m,i64 (IntKind.wrap .i64 (x.c+y.c)),i64 (-1),i64 ia,i64 ib]) f2 g7 d1 As g3 rfl rfl (Nat.zero_le _) (Nat.le_of_ble_eq_true rfl) rfl
 replace c5:b3.get b1=some ⟨[i64 x.f,i64 y.t,i64 x.m,i64 (IntKind.wrap .i64 (x.c+y.c)),i64 (-1),i64 ia,i64 ib],42,7,0,true⟩:=c5
 have hraw:oT Try.prog [] 60 Try.f79 q79 [aD ab ao arcs.length ca,i64 ia,i64 ib] M [bL 1 (pt b1 0) M2,aM 7,aU 9 (.agg ⟨[i64 x.f,i64 x.t,i64 x.m,i64 x.c,i64 x.e,i64 x.a,i64 x.b]⟩),aM 15,aU 17 (.agg ⟨[i64 y.f,i64 y.t,i64 y.m,i64 y.c,i64 y.e,i64 y.a,i64 y.b]⟩),bL 19 (pt a3 0) a5,bL 21 (pt a7 0) (aA.mk a1.blks a1.next (aS 0 [⟨8,1,M2.next,a5.next⟩,⟨3,1,M2.next,M2.next⟩]++M2.hide) a1.log),lP 23 a6,lP 25 a0,aU 29 (i64 x.f),aU 33 (i64 y.t),aU 37 (i64 x.m),aU 41 (i64 x.c),aU 45 (i64 y.c),lP 55 b3] 6=some (.ret,some (pt b1 0),b3,[.eq (dL Try.prog 42 M) (1,.val (pt b1 0),M2),.q (.inb ia arcs.length) (fM true),qL 42 ab (ao+(ia:Int).toNat*7) (aA.mk M2.blks M2.next M2.hide []) (.agg ⟨[i64 x.f,i64 x.t,i64 x.m,i64 x.c,i64 x.e,i64 x.a,i64 x.b]⟩),.q (.inb ib arcs.length) (fM true),qL 42 ab (ao+(ib:Int).toNat*7) (aA.mk M2.blks M2.next (aS 112 [⟨3,1,M2.next,M2.next⟩]++M2.hide) []) (.agg ⟨[i64 y.f,i64 y.t,i64 y.m,i64 y.c,i64 y.e,i64 y.a,i64 y.b]⟩),qT (Nat.blt ab M2.next),.eq (dL Try.prog 42 (aA.mk M2.blks M2.next (aS 0 [⟨3,1,M2.next,M2.next⟩]++M2.hide) [])) (1,.val (pt a3 0),a5),.eq (dL Try.prog 42 (aA.mk a5.blks a5.next (aS 0 [⟨8,1,M2.next,a5.next⟩,⟨3,1,M2.next,M2.next⟩]++M2.hide) a5.log)) (1,.val (pt a7 0),(aA.mk a1.blks a1.next (aS 0 [⟨8,1,M2.next,a5.next⟩,⟨3,1,M2.next,M2.next⟩]++M2.hide) a1.log)),qS 42 a3 0 (.agg ⟨[i64 x.f,i64 x.t,i64 x.m,i64 x.c,i64 x.e,i64 x.a,i64 x.b]⟩) (aA.mk (aA.mk a1.blks a1.next (aS 0 [⟨8,1,M2.next,a5.next⟩,⟨3,1,M2.next,M2.next⟩]++M2.hide) a1.log).blks (aA.mk a1.blks a1.next (aS 0 [⟨8,1,M2.next,a5.next⟩,⟨3,1,M2.next,M2.next⟩]++M2.hide) a1.log).next M2.hide (aA.mk a1.blks a1.next (aS 0 [⟨8,1,M2.next,a5.next⟩,⟨3,1,M2.next,M2.next⟩]++M2.hide) a1.log).log) a6,qS 42 a7 0 (.agg ⟨[i64 y.f,i64 y.t,i64 y.m,i64 y.c,i64 y.e,i64 y.a,i64 y.b]⟩) (aA.mk a6.blks a6.next M2.hide a6.log) a0,qT (cQ [ab] a0.log),qL 3 a3 0 (aA.mk a0.blks a0.next M2.hide (a0.log++M2.log)) (i64 x.f),qL 3 a7 1 (aA.mk a0.blks a0.next M2.hide (a0.log++M2.log)) (i64 y.t),qL 3 a3 2 (aA.mk a0.blks a0.next M2.hide (a0.log++M2.log)) (i64 x.m),qL 3 a3 3 (aA.mk a0.blks a0.next M2.hide (a0.log++M2.log)) (i64 x.c),qL 3 a7 3 (aA.mk a0.blks a0.next M2.hide (a0.log++M2.log)) (i64 y.c),qS 42 b1 0 (.agg ⟨[i64 x.f,i64 y.t,i64 x.m,i64 (IntKind.wrap .i64 (x.c+y.c)),i64 (-1),i64 ia,i64 ib]⟩) (aA.mk a0.blks a0.next M2.hide (a0.log++M2.log)) b3]):=by kernel_rfl
 dsimp only at hraw
 have h1:aA.mk M2.blks M2.next M2.hide []=a8:=a2.symm
 have h2:aA.mk M2.blks M2.next (aS 112 [⟨3,1,M2.next,M2.next⟩]++M2.hide) []=a8:=by rw[show aS 112 [⟨3,1,M2.next,M2.next⟩]= [] from by simp [aS,Nat.beq_refl,a9,show Nat.beq 1 0=false from rfl,show Nat.beq 2 0=false from rfl]];exact a2.symm
 have h3:aA.mk M2.blks M2.next (aS 0 [⟨3,1,M2.next,M2.next⟩]++M2.hide) []=a8:=by rw[show aS 0 [⟨3,1,M2.next,M2.next⟩]= [] from by simp [aS,Nat.beq_refl,a9,show Nat.beq 1 0=false from rfl,show Nat.beq 2 0=false from rfl]];exact a2.symm
 have h4:aA.mk a1.blks a1.next M2.hide a1.log=a1:=by rw[(show M2.hide=a1.hide from((X9).hide.trans (e4).hide.symm))]
 have h5:aA.mk a6.blks a6.next M2.hide a6.log=a6:=by rw[(show M2.hide=a6.hide from((X9).hide.trans (e5).hide.symm))]
 have h6:(aA.mk a0.blks a0.next M2.hide (a0.log++M2.log))=(aA.mk a0.blks a0.next a0.hide (a0.log++M2.log)):=by rw[(show M2.hide=a0.hide from((X9).hide.trans (e6).hide.symm))]
 have h7:(aA.mk a0.blks a0.next a0.hide (a0.log++M2.log))=b2:=a4.symm
 try rw[h1] at hraw
 try rw[h2] at hraw
 try rw[h3] at hraw
 try rw[h4] at hraw
 try rw[h5] at hraw
 try rw[h6] at hraw
 try rw[h7] at hraw
 exact⟨.agg ⟨[i64 x.f,i64 y.t,i64 x.m,i64 (IntKind.wrap .i64 (x.c+y.c)),i64 (-1),i64 ia,i64 ib]⟩,b3,Ev.told_cell aJ aI Try.func79 Yc (by kernel_rfl) rK79 (aG Try.prog) (fun _ _=>rfl) hraw (lZ (a:=⟨b1,0,none⟩) Kz As c5 rfl) (hk (bZ (by rw[<-e7,<-f5];kernel_rfl) Nat.one_ne_zero) (hk (eW hi0.1 hi0.2) (hk (iP (aE c0 hld1)) (hk (eW hi2.1 hi2.2) (hk (iP (aE c0 hld3)) (hk (mE b0) (hk (bZ (by rw[<-b4,<-b6];kernel_rfl) Nat.one_ne_zero) (hk (bZ (by rw[<-b5,<-b7];kernel_rfl) Nat.one_ne_zero) (hk (eF g9) (hk (eF q50) (hk (dZ (by rw[d7];simp<;>omega)) (hk (lC cO c4 rfl) (hk (lC cO f1 rfl) (hk (lC cO c4 rfl) (hk (lC cO c4 rfl) (hk (lC cO f1 rfl) (hk (eF h0) hn))))))))))))))))),f3,d2,rfl⟩
abbrev Q79:=FC (iG (Uu iU pI pI) fun x:List A7×Int×Int=>(0<=x.2.1/\x.2.1<(x.1.length:Int))/\(0<=x.2.2/\x.2.2<(x.1.length:Int))/\0<=(rG x.1 x.2.1).c+(rG x.1 x.2.2).c/\(rG x.1 x.2.1).c+(rG x.1 x.2.2).c<9223372036854775808) (plain Od) (fun x=>vO (rG x.1 x.2.1) (rG x.1 x.2.2) x.2.1 x.2.2)
theorem aAj{x:List A7×Int×Int}{lv:List Value}{M:aA}(hM:aB M)(h:(iG (Uu iU pI pI) fun x:List A7×Int×Int=>(0<=x.2.1/\x.2.1<(x.1.length:Int))/\(0<=x.2.2/\x.2.2<(x.1.length:Int))/\0<=(rG x.1 x.2.1).c+(rG x.1 x.2.2).c/\(rG x.1 x.2.1).c+(rG x.1 x.2.2).c<9223372036854775808) x lv M): ∃v M',lQ Try.prog [] 79 Q79 lv M v M':=by
 refine FC.con h ?_
 obtain⟨⟨g0,g1,g2,rfl,hs,k1,k2⟩,h1,h2,h3⟩:=h
 obtain⟨arcs,ia,ib⟩:=x
 obtain rfl:=k1
 obtain rfl:=k2
 simp only at h1 h2 h3 hs
 obtain⟨a,c,rfl⟩:=aK.form hs
 obtain⟨b,o,rfl,_⟩:=cD hs (by omega)
 have ta:arcs[ia.toNat]?=some arcs[ia.toNat]:=List.getElem?_eq_getElem (by omega)
 have tb:arcs[ib.toNat]?=some arcs[ib.toNat]:=List.getElem?_eq_getElem (by omega)
 have la:=uV (P:=Try.prog) (ty:=42) hs ta Kz As
 have lb:=uV (P:=Try.prog) (ty:=42) hs tb Kz As
 obtain⟨v,M',q1,q2,_,q3⟩:=w79 b o c arcs arcs[ia.toNat] arcs[ib.toNat] ia ib hM (oH hs (by omega)) h1 la h2 lb
 refine⟨v,M',q1,q2,?_⟩
 rw[pO ta,pO tb] at h3
 show Od (vO (rG arcs ia) (rG arcs ib) ia ib) _ _
 rw[pO ta,pO tb]
 rw[Rs (by omega) (by omega)] at q3
 exact q3
theorem Sf:(Try.prog.underlying 70).map dX=some false:=by kernel_rfl
theorem Og:Try.f48.results= #[.tmp 6]:=by kernel_rfl
theorem w48A0(B C K n:Nat)(cur:List Int)(a:A7)(num:Int)(y:List A7)(z:Int){M M0:aA}(hM:aB M)(X0:Ext M0 M)(gC:M.get C=some ⟨[i64 n,aD K 0 (n*n*5) (n*n*5+1),.func (.func 46) ⟨[pt B 0]⟩ ⟨[]⟩],73,3,0,true⟩)(gK:M.get K=some ⟨cur.map i64,3,1,0,true⟩)(nK:M0.next<=K)(dCK:C≠K)(hY:(Ds 53) y (pt B 0) (bP [(K,K+1)] M))(hcl:cur.length=n*n*5)(hrange:n<=60/\(0<=a.f/\a.f<(n:Int))/\(0<=a.t/\a.t<(n:Int))/\(0<=a.m/\a.m<5))(hz:z≠ -1->0<=z/\z<(y.length:Int))(cc0:(z==(-1:Int))=true)(hi0:0<=(dP (n:Int) a.f a.t a.m:Int)/\(dP (n:Int) a.f a.t a.m:Int)<(n*n*5))(hc1:(cur.map i64)[0+(dP (n:Int) a.f a.t a.m:Int).toNat*1]?=some (i64 z))(hof2:0+(dP (n:Int) a.f a.t a.m:Int).toNat*1+1<=(cur.map i64).length): ∃M',Ev Try.prog [] 48 [pt C 0,.agg ⟨[i64 a.f,i64 a.t,i64 a.m,i64 a.c,i64 a.e,i64 a.a,i64 a.b]⟩,i64 num] M (.bool true) M'/\Ext M0 M'/\aB M'/\M'.get K=some ⟨splice (cur.map i64) (0+(dP (n:Int) a.f a.t a.m:Int).toNat*1) [i64 num],3,1,0,true⟩/\(∀id k,M.get id=some k->id≠K->M'.get id=some k):=by
 obtain⟨b1,M2,c5,c6,g5,E6,d1⟩:=bG hM ⟨[i64 a.f,i64 a.t,i64 a.m,i64 a.c,i64 a.e,i64 a.a,i64 a.b],42,7,0,true⟩
 have g9:=E6.old gC
 have b6:=E6.old gK
 have c0:=X0.trans E6
 obtain⟨Kb,d7,a0,d4,d2,c4,a6,a9,b9⟩:=aH (x:=((n,cur),a.f,a.t,a.m)) d1 yP (⟨⟨_,_,_,_,rfl,⟨C,K,n*n*5+1,.func (.func 46) ⟨[pt B 0]⟩ ⟨[]⟩,rfl,(by rw[hcl];exact g9),b6⟩,rfl,rfl,rfl⟩,hrange⟩)
 have b7:=a6.old g9
 have b8:=a6.old b6
 have a7:Kb=i64 (dP (n:Int) a.f a.t a.m):=b9
 subst a7
 have b5:=c0.trans a6
 obtain⟨a1,a2⟩: ∃m:aA,m=aA.mk a0.blks a0.next a0.hide []:=⟨_,rfl⟩
 have c1:Ext (aA.mk M0.blks M0.next M0.hide []) a1:=by rw[a2];exact Ext.aside (b5)
 have b0:aB a1:=by rw[a2];exact aB.log a9
 have c7:a1.get C=some ⟨[i64 (n:Int),aD K 0 (n*n*5) (n*n*5+1),.func (.func 46) ⟨[pt B 0]⟩ ⟨[]⟩],73,3,0,true⟩:=by rw[a2];exact b7
 have c8:a1.get K=some ⟨cur.map i64,3,1,0,true⟩:=by rw[a2];exact b8
 obtain⟨a4,a3⟩: ∃m:aA,m=(aA.mk a1.blks a1.next a1.hide (a1.log++a0.log)):=⟨_,rfl⟩
 have c2:Ext M0 a4:=by rw[a3];exact Ext.join (b5) (c1)
 have b2:aB a4:=by rw[a3];exact b0
 have c9:a4.get C=some ⟨[i64 (n:Int),aD K 0 (n*n*5) (n*n*5+1),.func (.func 46) ⟨[pt B 0]⟩ ⟨[]⟩],73,3,0,true⟩:=by rw[a3];exact c7
 have d0:a4.get K=some ⟨cur.map i64,3,1,0,true⟩:=by rw[a3];exact c8
 obtain⟨a5,q46,a8,b4,c3,b3,d3⟩:=bH (o:=0+(dP (n:Int) a.f a.t a.m:Int).toNat*1) (v:=(i64 num)) (new:=splice (cur.map i64) (0+(dP (n:Int) a.f a.t a.m:Int).toNat*1) [i64 num]) c2 nK b2 He d0 rfl rfl (Nat.zero_le _) hof2 rfl
 replace a8:a5.get K=some ⟨splice (cur.map i64) (0+(dP (n:Int) a.f a.t a.m:Int).toNat*1) [i64 num],3,1,0,true⟩:=a8
 have hraw:oT Try.prog [] 60 Try.f48 Tg [pt C 0,.agg ⟨[i64 a.f,i64 a.t,i64 a.m,i64 a.c,i64 a.e,i64 a.a,i64 a.b]⟩,i64 num] M [bL 1 (pt b1 0) M2,aU 9 (i64 a.f),aU 13 (i64 a.t),aU 17 (i64 a.m),bL 19 (i64 (dP (n:Int) a.f a.t a.m)) a0,aU 29 (aD K 0 (n*n*5) (n*n*5+1)),aM 33,aU 35 (i64 z),aO 44,aO 46,aO 48,aO 50,aO 52,aO 54,aO 56,aO 58,aO 60,aO 63,aU 72 (aD K 0 (n*n*5) (n*n*5+1)),aM 78,lP 80 a5] 6=some (.ret,some (.bool true),a5,[.eq (fE Try.prog 42 (.agg ⟨[i64 a.f,i64 a.t,i64 a.m,i64 a.c,i64 a.e,i64 a.a,i64 a.b]⟩) M) (1,.val (pt b1 0),M2),qL 3 b1 0 M2 (i64 a.f),qL 3 b1 1 M2 (i64 a.t),qL 3 b1 2 M2 (i64 a.m),qC 72 [pt C 0,i64 a.f,i64 a.t,i64 a.m] M2 (i64 (dP (n:Int) a.f a.t a.m)) a0,qL 22 C 1 a0 (aD K 0 (n*n*5) (n*n*5+1)),.q (.inb (dP (n:Int) a.f a.t a.m) (n*n*5)) (fM true),qL 3 K (0+(dP (n:Int) a.f a.t a.m:Int).toNat*1) a0 (i64 z),qF (!(z==(-1:Int))),qF (!(z==(-1:Int))),qF (!(z==(-1:Int))),qF (!(z==(-1:Int))),qF (!(z==(-1:Int))),qF (!(z==(-1:Int))),qF (!(z==(-1:Int))),qF (!(z==(-1:Int))),qF (!(z==(-1:Int))),qF (!(z==(-1:Int))),qT (cQ [] []),qL 22 C 1 (aA.mk a0.blks a0.next a0.hide ([]++a0.log)) (aD K 0 (n*n*5) (n*n*5+1)),.q (.inb (dP (n:Int) a.f a.t a.m) (n*n*5)) (fM true),qS 3 K (0+(dP (n:Int) a.f a.t a.m:Int).toNat*1) (i64 num) (aA.mk a0.blks a0.next a0.hide ([]++a0.log)) a5]):=by kernel_rfl
 have d5:(aA.mk a0.blks a0.next a0.hide ([]++a0.log))=(aA.mk a1.blks a1.next a1.hide (a1.log++a0.log)):=by rw[a2]
 have d6:(aA.mk a1.blks a1.next a1.hide (a1.log++a0.log))=a4:=a3.symm
 try rw[d5] at hraw
 try rw[d6] at hraw
 have hkp: ∀id k,M.get id=some k->id≠K->a5.get id=some k:=fun id k g h_K=>by
  have g:=E6.old g
  have g:=a6.old g
  have g:a1.get id=some k:=by rw[a2];exact g
  have g:a4.get id=some k:=by rw[a3];exact g
  have g:=((fun id h _=>b4 id h) id h_K (aA.lt_of_get g)).trans g
  exact g
 exact⟨a5,Ev.told_tmp aJ aI Try.func48 xW (by kernel_rfl) Og (fun B=>lO (gF 72 Ry (gQ _))) (fun _ _=>rfl) hraw (hk (bZ (by rw[<-c5,<-c6];kernel_rfl) Nat.one_ne_zero) (hk (lC cO g5 rfl) (hk (lC cO g5 rfl) (hk (lC cO g5 rfl) (hk (aN rfl d4 d2 c4) (hk (lC hI b7 rfl) (hk (eW hi0.1 hi0.2) (hk (iP (bW (a:=⟨K,0+(dP (n:Int) a.f a.t a.m:Int).toNat*1,none⟩) cO b8 hc1)) (hk (bF (by rw[cc0];rfl)) (hk (bF (by rw[cc0];rfl)) (hk (bF (by rw[cc0];rfl)) (hk (bF (by rw[cc0];rfl)) (hk (bF (by rw[cc0];rfl)) (hk (bF (by rw[cc0];rfl)) (hk (bF (by rw[cc0];rfl)) (hk (bF (by rw[cc0];rfl)) (hk (bF (by rw[cc0];rfl)) (hk (bF (by rw[cc0];rfl)) (hk (dZ (by simp)) (hk (lC hI c9 rfl) (hk (eW hi0.1 hi0.2) (hk (eF q46) hn)))))))))))))))))))))),c3,b3,a8,hkp⟩
theorem w48A1(B C K n:Nat)(cur:List Int)(a:A7)(num:Int)(y:List A7)(z:Int){M M0:aA}(hM:aB M)(X0:Ext M0 M)(gC:M.get C=some ⟨[i64 n,aD K 0 (n*n*5) (n*n*5+1),.func (.func 46) ⟨[pt B 0]⟩ ⟨[]⟩],73,3,0,true⟩)(gK:M.get K=some ⟨cur.map i64,3,1,0,true⟩)(nK:M0.next<=K)(dCK:C≠K)(hY:(Ds 53) y (pt B 0) (bP [(K,K+1)] M))(hcl:cur.length=n*n*5)(hrange:n<=60/\(0<=a.f/\a.f<(n:Int))/\(0<=a.t/\a.t<(n:Int))/\(0<=a.m/\a.m<5))(hz:z≠ -1->0<=z/\z<(y.length:Int))(cc0:(z==(-1:Int))=false)(cc1:(decide ((dK y z)<=a.c))=true)(hi0:0<=(dP (n:Int) a.f a.t a.m:Int)/\(dP (n:Int) a.f a.t a.m:Int)<(n*n*5))(hc1:(cur.map i64)[0+(dP (n:Int) a.f a.t a.m:Int).toNat*1]?=some (i64 z)): ∃M',Ev Try.prog [] 48 [pt C 0,.agg ⟨[i64 a.f,i64 a.t,i64 a.m,i64 a.c,i64 a.e,i64 a.a,i64 a.b]⟩,i64 num] M (.bool false) M'/\Ext M0 M'/\aB M'/\M'.get K=some ⟨cur.map i64,3,1,0,true⟩/\(∀id k,M.get id=some k->id≠K->M'.get id=some k):=by
 obtain⟨b1,M2,c0,d3,g5,E6,e0⟩:=bG hM ⟨[i64 a.f,i64 a.t,i64 a.m,i64 a.c,i64 a.e,i64 a.a,i64 a.b],42,7,0,true⟩
 have F8:=iB (R:=(Ds 53)) hY c0 E6
 have g9:=E6.old gC
 have c1:=E6.old gK
 have c9:=X0.trans E6
 obtain⟨Kb,f0,a0,e3,e1,d2,a6,b3,c5⟩:=aH (x:=((n,cur),a.f,a.t,a.m)) e0 yP (⟨⟨_,_,_,_,rfl,⟨C,K,n*n*5+1,.func (.func 46) ⟨[pt B 0]⟩ ⟨[]⟩,rfl,(by rw[hcl];exact g9),c1⟩,rfl,rfl,rfl⟩,hrange⟩)
 have c6:=dW (R:=(Ds 53)) F8 a6
 have c2:=a6.old g9
 have c3:=a6.old c1
 have c4:=a6.old g5
 have b0:Kb=i64 (dP (n:Int) a.f a.t a.m):=c5
 subst b0
 have a8:=c9.trans a6
 obtain⟨a4,a2⟩: ∃m:aA,m=aA.mk a0.blks a0.next a0.hide []:=⟨_,rfl⟩
 have d0:Ext (aA.mk M0.blks M0.next M0.hide []) a4:=by rw[a2];exact Ext.aside (a8)
 have b7:a4.log= []:=by rw[a2]
 have b4:aB a4:=by rw[a2];exact aB.log b3
 have d4:a4.get C=some ⟨[i64 (n:Int),aD K 0 (n*n*5) (n*n*5+1),.func (.func 46) ⟨[pt B 0]⟩ ⟨[]⟩],73,3,0,true⟩:=by rw[a2];exact c2
 have d5:a4.get K=some ⟨cur.map i64,3,1,0,true⟩:=by rw[a2];exact c3
 have ltb1M15:b1<a0.next:=by have h:=aA.lt_of_get c4;exact h
 have d6:a4.get b1=some ⟨[i64 a.f,i64 a.t,i64 a.m,i64 a.c,i64 a.e,i64 a.a,i64 a.b],42,7,0,true⟩:=by rw[a2];exact c4
 have c7:=eM (R:=(Ds 53)) (M':=a4) c6 (fun id b h=>by rw[a2];exact h)
 obtain⟨e9,f1,a1,e4,e2,b9,a7,b5,c8⟩:=aH (x:=(y,z)) b4 Tz (⟨⟨_,_,rfl,eI (R:=(Ds 53)) c7,rfl⟩,hz (by intro e;rw[e] at cc0;cases cc0)⟩)
 have d7:=a7.old d5
 have d8:=a7.old d6
 have b2:e9=i64 (dK y z):=c8
 subst b2
 have b8:a1.log= []:=by rw[<-b9];exact b7
 have a9:=d0.trans a7
 obtain⟨a5,a3⟩: ∃m:aA,m=(aA.mk a1.blks a1.next a1.hide (a1.log++a0.log)):=⟨_,rfl⟩
 have d1:Ext M0 a5:=by rw[a3];exact Ext.join (a8) (a9)
 have b6:aB a5:=by rw[a3];exact b5
 have d9:a5.get K=some ⟨cur.map i64,3,1,0,true⟩:=by rw[a3];exact d7
 have hraw:oT Try.prog [] 60 Try.f48 Tg [pt C 0,.agg ⟨[i64 a.f,i64 a.t,i64 a.m,i64 a.c,i64 a.e,i64 a.a,i64 a.b]⟩,i64 num] M [bL 1 (pt b1 0) M2,aU 9 (i64 a.f),aU 13 (i64 a.t),aU 17 (i64 a.m),bL 19 (i64 (dP (n:Int) a.f a.t a.m)) a0,aU 29 (aD K 0 (n*n*5) (n*n*5+1)),aM 33,aU 35 (i64 z),aM 44,aM 46,aM 48,aM 50,aU 51 (.func (.func 46) ⟨[pt B 0]⟩ ⟨[]⟩),aM 52,aM 54,bL 55 (i64 (dK y z)) a1,aM 56,aM 58,aU 59 (i64 a.c),aM 60,aM 63,aM 64] 6=some (.ret,some (.bool false),aA.mk a1.blks a1.next a0.hide (a1.log++a0.log),[.eq (fE Try.prog 42 (.agg ⟨[i64 a.f,i64 a.t,i64 a.m,i64 a.c,i64 a.e,i64 a.a,i64 a.b]⟩) M) (1,.val (pt b1 0),M2),qL 3 b1 0 M2 (i64 a.f),qL 3 b1 1 M2 (i64 a.t),qL 3 b1 2 M2 (i64 a.m),qC 72 [pt C 0,i64 a.f,i64 a.t,i64 a.m] M2 (i64 (dP (n:Int) a.f a.t a.m)) a0,qL 22 C 1 a0 (aD K 0 (n*n*5) (n*n*5+1)),.q (.inb (dP (n:Int) a.f a.t a.m) (n*n*5)) (fM true),qL 3 K (0+(dP (n:Int) a.f a.t a.m:Int).toNat*1) a0 (i64 z),qT (!(z==(-1:Int))),qT (!(z==(-1:Int))),qT (!(z==(-1:Int))),qT (!(z==(-1:Int))),qL 70 C 2 (aA.mk a0.blks a0.next a0.hide []) (.func (.func 46) ⟨[pt B 0]⟩ ⟨[]⟩),qT (!(z==(-1:Int))),qT (!(z==(-1:Int))),qC 46 [pt B 0,i64 z] (aA.mk a0.blks a0.next a0.hide []) (i64 (dK y z)) a1,qT (!(z==(-1:Int))),qT (!(z==(-1:Int))),qL 3 b1 3 (aA.mk a1.blks a1.next (aS 519 [⟨8,1,a0.next,a1.next⟩,⟨6,1,a0.next,a0.next⟩]++a0.hide) a1.log) (i64 a.c),qT (Nat.blt b1 a0.next),qT (!(z==(-1:Int))),qT (!(z==(-1:Int))),qT (cQ [b1] a1.log),qT (decide ((dK y z)<=a.c))]):=by kernel_rfl
 have e5:aA.mk a0.blks a0.next a0.hide []=a4:=a2.symm
 have e6:aA.mk a1.blks a1.next (aS 519 [⟨8,1,a0.next,a1.next⟩,⟨6,1,a0.next,a0.next⟩]++a0.hide) a1.log=bP (aS 519 [⟨8,1,a0.next,a1.next⟩,⟨6,1,a0.next,a0.next⟩]) a1:=by rw[(show a0.hide=a1.hide from((a8).hide.trans (a9).hide.symm))];rfl
 have e7:(aA.mk a1.blks a1.next a0.hide (a1.log++a0.log))=(aA.mk a1.blks a1.next a1.hide (a1.log++a0.log)):=by rw[(show a0.hide=a1.hide from((a8).hide.trans (a9).hide.symm))]
 have e8:(aA.mk a1.blks a1.next a1.hide (a1.log++a0.log))=a5:=a3.symm
 try rw[e5] at hraw
 try rw[e6] at hraw
 try rw[e7] at hraw
 try rw[e8] at hraw
 have hkp: ∀id k,M.get id=some k->id≠K->a5.get id=some k:=fun id k g h_K=>by
  have g:=E6.old g
  have g:=a6.old g
  have g:a4.get id=some k:=by rw[a2];exact g
  have g:=a7.old g
  have g:a5.get id=some k:=by rw[a3];exact g
  exact g
 exact⟨a5,Ev.told_tmp aJ aI Try.func48 xW (by kernel_rfl) Og (fun B=>lO (gF 46 Q46 (gF 72 Ry (gQ _)))) (fun _ _=>rfl) hraw (hk (bZ (by rw[<-c0,<-d3];kernel_rfl) Nat.one_ne_zero) (hk (lC cO g5 rfl) (hk (lC cO g5 rfl) (hk (lC cO g5 rfl) (hk (aN rfl e3 e1 d2) (hk (lC hI c2 rfl) (hk (eW hi0.1 hi0.2) (hk (iP (bW (a:=⟨K,0+(dP (n:Int) a.f a.t a.m:Int).toNat*1,none⟩) cO c3 hc1)) (hk (bT (by rw[cc0];rfl)) (hk (bT (by rw[cc0];rfl)) (hk (bT (by rw[cc0];rfl)) (hk (bT (by rw[cc0];rfl)) (hk (lC Sf d4 rfl) (hk (bT (by rw[cc0];rfl)) (hk (bT (by rw[cc0];rfl)) (hk (aN rfl e4 e2 b9) (hk (bT (by rw[cc0];rfl)) (hk (bT (by rw[cc0];rfl)) (hk (lC cO (bS.2 ⟨cY (by simp;omega),d8⟩) rfl) (hk (mE ltb1M15) (hk (bT (by rw[cc0];rfl)) (hk (bT (by rw[cc0];rfl)) (hk (dZ (by rw[b8];simp<;>omega)) (hk (bT cc1) hn)))))))))))))))))))))))),d1,b6,d9,hkp⟩
theorem w48A2(B C K n:Nat)(cur:List Int)(a:A7)(num:Int)(y:List A7)(z:Int){M M0:aA}(hM:aB M)(X0:Ext M0 M)(gC:M.get C=some ⟨[i64 n,aD K 0 (n*n*5) (n*n*5+1),.func (.func 46) ⟨[pt B 0]⟩ ⟨[]⟩],73,3,0,true⟩)(gK:M.get K=some ⟨cur.map i64,3,1,0,true⟩)(nK:M0.next<=K)(dCK:C≠K)(hY:(Ds 53) y (pt B 0) (bP [(K,K+1)] M))(hcl:cur.length=n*n*5)(hrange:n<=60/\(0<=a.f/\a.f<(n:Int))/\(0<=a.t/\a.t<(n:Int))/\(0<=a.m/\a.m<5))(hz:z≠ -1->0<=z/\z<(y.length:Int))(cc0:(z==(-1:Int))=false)(cc1:(decide ((dK y z)<=a.c))=false)(hi0:0<=(dP (n:Int) a.f a.t a.m:Int)/\(dP (n:Int) a.f a.t a.m:Int)<(n*n*5))(hc1:(cur.map i64)[0+(dP (n:Int) a.f a.t a.m:Int).toNat*1]?=some (i64 z))(hof2:0+(dP (n:Int) a.f a.t a.m:Int).toNat*1+1<=(cur.map i64).length): ∃M',Ev Try.prog [] 48 [pt C 0,.agg ⟨[i64 a.f,i64 a.t,i64 a.m,i64 a.c,i64 a.e,i64 a.a,i64 a.b]⟩,i64 num] M (.bool true) M'/\Ext M0 M'/\aB M'/\M'.get K=some ⟨splice (cur.map i64) (0+(dP (n:Int) a.f a.t a.m:Int).toNat*1) [i64 num],3,1,0,true⟩/\(∀id k,M.get id=some k->id≠K->M'.get id=some k):=by
 obtain⟨b1,M2,c4,d9,g5,E6,e7⟩:=bG hM ⟨[i64 a.f,i64 a.t,i64 a.m,i64 a.c,i64 a.e,i64 a.a,i64 a.b],42,7,0,true⟩
 have F8:=iB (R:=(Ds 53)) hY c4 E6
 have g9:=E6.old gC
 have c5:=E6.old gK
 have d4:=X0.trans E6
 obtain⟨Kb,f9,a0,f1,e8,d8,a5,b5,d0⟩:=aH (x:=((n,cur),a.f,a.t,a.m)) e7 yP (⟨⟨_,_,_,_,rfl,⟨C,K,n*n*5+1,.func (.func 46) ⟨[pt B 0]⟩ ⟨[]⟩,rfl,(by rw[hcl];exact g9),c5⟩,rfl,rfl,rfl⟩,hrange⟩)
 have d1:=dW (R:=(Ds 53)) F8 a5
 have c6:=a5.old g9
 have c7:=a5.old c5
 have c8:=a5.old g5
 have b2:Kb=i64 (dP (n:Int) a.f a.t a.m):=d0
 subst b2
 have a9:=d4.trans a5
 obtain⟨a4,a2⟩: ∃m:aA,m=aA.mk a0.blks a0.next a0.hide []:=⟨_,rfl⟩
 have d5:Ext (aA.mk M0.blks M0.next M0.hide []) a4:=by rw[a2];exact Ext.aside (a9)
 have c1:a4.log= []:=by rw[a2]
 have b6:aB a4:=by rw[a2];exact aB.log b5
 have c9:a4.get C=some ⟨[i64 (n:Int),aD K 0 (n*n*5) (n*n*5+1),.func (.func 46) ⟨[pt B 0]⟩ ⟨[]⟩],73,3,0,true⟩:=by rw[a2];exact c6
 have e0:a4.get K=some ⟨cur.map i64,3,1,0,true⟩:=by rw[a2];exact c7
 have ltb1M15:b1<a0.next:=by have h:=aA.lt_of_get c8;exact h
 have e1:a4.get b1=some ⟨[i64 a.f,i64 a.t,i64 a.m,i64 a.c,i64 a.e,i64 a.a,i64 a.b],42,7,0,true⟩:=by rw[a2];exact c8
 have d2:=eM (R:=(Ds 53)) (M':=a4) d1 (fun id b h=>by rw[a2];exact h)
 obtain⟨f8,g0,a1,f2,e9,c3,a8,b7,d3⟩:=aH (x:=(y,z)) b6 Tz (⟨⟨_,_,rfl,eI (R:=(Ds 53)) d2,rfl⟩,hz (by intro e;rw[e] at cc0;cases cc0)⟩)
 have e2:=a8.old c9
 have e3:=a8.old e0
 have e4:=a8.old e1
 have b3:f8=i64 (dK y z):=d3
 subst b3
 have c2:a1.log= []:=by rw[<-c3];exact c1
 have b0:=d5.trans a8
 obtain⟨a6,a3⟩: ∃m:aA,m=(aA.mk a1.blks a1.next a1.hide (a1.log++a0.log)):=⟨_,rfl⟩
 have d6:Ext M0 a6:=by rw[a3];exact Ext.join (a9) (b0)
 have b8:aB a6:=by rw[a3];exact b7
 have e5:a6.get C=some ⟨[i64 (n:Int),aD K 0 (n*n*5) (n*n*5+1),.func (.func 46) ⟨[pt B 0]⟩ ⟨[]⟩],73,3,0,true⟩:=by rw[a3];exact e2
 have e6:a6.get K=some ⟨cur.map i64,3,1,0,true⟩:=by rw[a3];exact e3
 obtain⟨a7,q62,b4,c0,d7,b9,f0⟩:=bH (o:=0+(dP (n:Int) a.f a.t a.m:Int).toNat*1) (v:=(i64 num)) (new:=splice (cur.map i64) (0+(dP (n:Int) a.f a.t a.m:Int).toNat*1) [i64 num]) d6 nK b8 He e6 rfl rfl (Nat.zero_le _) hof2 rfl
 replace b4:a7.get K=some ⟨splice (cur.map i64) (0+(dP (n:Int) a.f a.t a.m:Int).toNat*1) [i64 num],3,1,0,true⟩:=b4
 have hraw:oT Try.prog [] 60 Try.f48 Tg [pt C 0,.agg ⟨[i64 a.f,i64 a.t,i64 a.m,i64 a.c,i64 a.e,i64 a.a,i64 a.b]⟩,i64 num] M [bL 1 (pt b1 0) M2,aU 9 (i64 a.f),aU 13 (i64 a.t),aU 17 (i64 a.m),bL 19 (i64 (dP (n:Int) a.f a.t a.m)) a0,aU 29 (aD K 0 (n*n*5) (n*n*5+1)),aM 33,aU 35 (i64 z),aM 44,aM 46,aM 48,aM 50,aU 51 (.func (.func 46) ⟨[pt B 0]⟩ ⟨[]⟩),aM 52,aM 54,bL 55 (i64 (dK y z)) a1,aM 56,aM 58,aU 59 (i64 a.c),aM 60,aM 63,aO 64,aU 72 (aD K 0 (n*n*5) (n*n*5+1)),aM 78,lP 80 a7] 6=some (.ret,some (.bool true),a7,[.eq (fE Try.prog 42 (.agg ⟨[i64 a.f,i64 a.t,i64 a.m,i64 a.c,i64 a.e,i64 a.a,i64 a.b]⟩) M) (1,.val (pt b1 0),M2),qL 3 b1 0 M2 (i64 a.f),qL 3 b1 1 M2 (i64 a.t),qL 3 b1 2 M2 (i64 a.m),qC 72 [pt C 0,i64 a.f,i64 a.t,i64 a.m] M2 (i64 (dP (n:Int) a.f a.t a.m)) a0,qL 22 C 1 a0 (aD K 0 (n*n*5) (n*n*5+1)),.q (.inb (dP (n:Int) a.f a.t a.m) (n*n*5)) (fM true),qL 3 K (0+(dP (n:Int) a.f a.t a.m:Int).toNat*1) a0 (i64 z),qT (!(z==(-1:Int))),qT (!(z==(-1:Int))),qT (!(z==(-1:Int))),qT (!(z==(-1:Int))),qL 70 C 2 (aA.mk a0.blks a0.next a0.hide []) (.func (.func 46) ⟨[pt B 0]⟩ ⟨[]⟩),qT (!(z==(-1:Int))),qT (!(z==(-1:Int))),qC 46 [pt B 0,i64 z] (aA.mk a0.blks a0.next a0.hide []) (i64 (dK y z)) a1,qT (!(z==(-1:Int))),qT (!(z==(-1:Int))),qL 3 b1 3 (aA.mk a1.blks a1.next (aS 519 [⟨8,1,a0.next,a1.next⟩,⟨6,1,a0.next,a0.next⟩]++a0.hide) a1.log) (i64 a.c),qT (Nat.blt b1 a0.next),qT (!(z==(-1:Int))),qT (!(z==(-1:Int))),qT (cQ [b1] a1.log),qF (decide ((dK y z)<=a.c)),qL 22 C 1 (aA.mk a1.blks a1.next a0.hide (a1.log++a0.log)) (aD K 0 (n*n*5) (n*n*5+1)),.q (.inb (dP (n:Int) a.f a.t a.m) (n*n*5)) (fM true),qS 3 K (0+(dP (n:Int) a.f a.t a.m:Int).toNat*1) (i64 num) (aA.mk a1.blks a1.next a0.hide (a1.log++a0.log)) a7]):=by kernel_rfl
 have f3:aA.mk a0.blks a0.next a0.hide []=a4:=a2.symm
 have f5:aA.mk a1.blks a1.next (aS 519 [⟨8,1,a0.next,a1.next⟩,⟨6,1,a0.next,a0.next⟩]++a0.hide) a1.log=bP (aS 519 [⟨8,1,a0.next,a1.next⟩,⟨6,1,a0.next,a0.next⟩]) a1:=by rw[(show a0.hide=a1.hide from((a9).hide.trans (b0).hide.symm))];rfl
 have f6:(aA.mk a1.blks a1.next a0.hide (a1.log++a0.log))=(aA.mk a1.blks a1.next a1.hide (a1.log++a0.log)):=by rw[(show a0.hide=a1.hide from((a9).hide.trans (b0).hide.symm))]
 have f7:(aA.mk a1.blks a1.next a1.hide (a1.log++a0.log))=a6:=a3.symm
 try rw[f3] at hraw
 try rw[f5] at hraw
 try rw[f6] at hraw
 try rw[f7] at hraw
 have hkp: ∀id k,M.get id=some k->id≠K->a7.get id=some k:=fun id k g h_K=>by
  have g:=E6.old g
  have g:=a5.old g
  have g:a4.get id=some k:=by rw[a2];exact g
  have g:=a8.old g
  have g:a6.get id=some k:=by rw[a3];exact g
  have g:=((fun id h _=>c0 id h) id h_K (aA.lt_of_get g)).trans g
  exact g
 exact⟨a7,Ev.told_tmp aJ aI Try.func48 xW (by kernel_rfl) Og (fun B=>lO (gF 46 Q46 (gF 72 Ry (gQ _)))) (fun _ _=>rfl) hraw (hk (bZ (by rw[<-c4,<-d9];kernel_rfl) Nat.one_ne_zero) (hk (lC cO g5 rfl) (hk (lC cO g5 rfl) (hk (lC cO g5 rfl) (hk (aN rfl f1 e8 d8) (hk (lC hI c6 rfl) (hk (eW hi0.1 hi0.2) (hk (iP (bW (a:=⟨K,0+(dP (n:Int) a.f a.t a.m:Int).toNat*1,none⟩) cO c7 hc1)) (hk (bT (by rw[cc0];rfl)) (hk (bT (by rw[cc0];rfl)) (hk (bT (by rw[cc0];rfl)) (hk (bT (by rw[cc0];rfl)) (hk (lC Sf c9 rfl) (hk (bT (by rw[cc0];rfl)) (hk (bT (by rw[cc0];rfl)) (hk (aN rfl f2 e9 c3) (hk (bT (by rw[cc0];rfl)) (hk (bT (by rw[cc0];rfl)) (hk (lC cO (bS.2 ⟨cY (by simp;omega),e4⟩) rfl) (hk (mE ltb1M15) (hk (bT (by rw[cc0];rfl)) (hk (bT (by rw[cc0];rfl)) (hk (dZ (by rw[c2];simp<;>omega)) (hk (bF cc1) (hk (lC hI e5 rfl) (hk (eW hi0.1 hi0.2) (hk (eF q62) hn))))))))))))))))))))))))))),d7,b9,b4,hkp⟩
theorem Po{x:LX (List A7)}{lv:List Value}{M:aA}(hM:aB M)(h:(Oa 73 46 dK (Ds 53) (fun y i=>0<=i/\i<(y.length:Int))).A x lv M)(hlo:x.K<=M.next): ∃v M',TO Try.prog 48 (Oa 73 46 dK (Ds 53) (fun y i=>0<=i/\i<(y.length:Int))) lv M v M':=by
 have hA:=h
 obtain⟨C,K,B,n,cur,y,a,num⟩:=x
 obtain⟨rfl,gC,gK,hY,dCK,hn,hcl,hf,ht,hm,hok⟩:=h
 simp only at gC gK hY dCK hn hcl hf ht hm hok hlo
 have X0:=Ext.cut hlo
 have nK:(cut K M).next<=K:=Nat.le_refl _
 have hp:=pZ hf ht hm
 have hrange:n<=60/\(0<=a.f/\a.f<(n:Int))/\(0<=a.t/\a.t<(n:Int))/\(0<=a.m/\a.m<5):=⟨hn,hf,ht,hm⟩
 have hz:bC cur (iS n a)≠ -1->0<=bC cur (iS n a)/\bC cur (iS n a)<(y.length:Int):=fun e=>hok.resolve_left e
 have hin:0<=((dP (n:Int) (a.f) (a.t) (a.m)):Int)/\((dP (n:Int) (a.f) (a.t) (a.m)):Int)<(n*n*5):=by refine⟨hp.1,?_⟩;have:=hp.2;push_cast at this⊢;exact this
 have hk:iS n a<cur.length:=by rw[hcl];unfold iS;omega
 have hat:0+((dP (n:Int) (a.f) (a.t) (a.m)):Int).toNat*1=iS n a:=by unfold iS;omega
 have hcc:(cur.map i64)[0+((dP (n:Int) (a.f) (a.t) (a.m)):Int).toNat*1]?=some (i64 (bC cur (iS n a))):=by rw[hat,List.getElem?_map,kK hk];rfl
 have hof:0+((dP (n:Int) (a.f) (a.t) (a.m)):Int).toNat*1+1<=(cur.map i64).length:=by rw[hat,List.length_map];omega
 have hspl:splice (cur.map i64) (0+((dP (n:Int) (a.f) (a.t) (a.m)):Int).toNat*1) [i64 num]=(cur.set (iS n a) num).map i64:=by rw[hat,jR _ _ _ (by simpa using hk),List.map_set]
 have fin: ∀{bv:Bool} {cu:List Int} {M':aA},Ev Try.prog [] 48 [pt C 0,.agg ⟨kB a⟩,i64 num] M (.bool bv) M'->Ext (cut K M) M'->M'.get K=some ⟨cu.map i64,3,1,0,true⟩->(∀id k,M.get id=some k->id≠K->M'.get id=some k)->bv=fB (dK y) (bC cur (iS n a)) a.c->cu=iD dK ⟨C,K,B,n,cur,y,a,num⟩-> ∃v M',TO Try.prog 48 (Oa 73 46 dK (Ds 53) (fun y i=>0<=i/\i<(y.length:Int))) [pt C 0,.agg ⟨kB a⟩,i64 num] M v M':=
  fun h1 h2 h3 h4 e1 e2=>⟨_,_,h1,⟨C,K,B,n,cur,y,a,num⟩,hA,hlo,h2,h4,by rw[e1],by rw[<-e2];exact h3⟩
 cases c0:bC cur (iS n a)==(-1:Int) with
 |true=>
  obtain⟨M',h1,h2,h3,h4,h5⟩:=w48A0 B C K n cur a num y (bC cur (iS n a)) hM X0 gC gK nK dCK hY hcl hrange hz c0 hin hcc hof
  rw[hspl] at h4
  exact fin h1 h2 h4 h5 (by simp [fB,c0]) (by simp [iD,fB,c0])
 |false=>
  cases c1:decide (dK y (bC cur (iS n a))<=a.c) with
  |true=>
   obtain⟨M',h1,h2,h3,h4,h5⟩:=w48A1 B C K n cur a num y (bC cur (iS n a)) hM X0 gC gK nK dCK hY hcl hrange hz c0 c1 hin hcc
   have e:fB (dK y) (bC cur (iS n a)) a.c=false:=by simp only [fB,c0,Bool.false_or];exact decide_eq_false (by have:=of_decide_eq_true c1;omega)
   exact fin h1 h2 h4 h5 e.symm (by simp [iD,e])
  |false=>
   obtain⟨M',h1,h2,h3,h4,h5⟩:=w48A2 B C K n cur a num y (bC cur (iS n a)) hM X0 gC gK nK dCK hY hcl hrange hz c0 c1 hin hcc hof
   rw[hspl] at h4
   have e:fB (dK y) (bC cur (iS n a)) a.c=true:=by simp only [fB,c0,Bool.false_or];exact decide_eq_true (by have:=of_decide_eq_false c1;omega)
   exact fin h1 h2 h4 h5 e.symm (by simp [iD,e])
theorem w48E0(B C K n:Nat)(cur:List Int)(a:A7)(num:Int)(y:List E4)(z:Int){M M0:aA}(hM:aB M)(X0:Ext M0 M)(gC:M.get C=some ⟨[i64 n,aD K 0 (n*n*5) (n*n*5+1),.func (.func 47) ⟨[pt B 0]⟩ ⟨[]⟩],73,3,0,true⟩)(gK:M.get K=some ⟨cur.map i64,3,1,0,true⟩)(nK:M0.next<=K)(dCK:C≠K)(hY:(zX 53) y (pt B 0) (bP [(K,K+1)] M))(hcl:cur.length=n*n*5)(hrange:n<=60/\(0<=a.f/\a.f<(n:Int))/\(0<=a.t/\a.t<(n:Int))/\(0<=a.m/\a.m<5))(hz:z≠ -1->0<=z/\z<(y.length:Int))(cc0:(z==(-1:Int))=true)(hi0:0<=(dP (n:Int) a.f a.t a.m:Int)/\(dP (n:Int) a.f a.t a.m:Int)<(n*n*5))(hc1:(cur.map i64)[0+(dP (n:Int) a.f a.t a.m:Int).toNat*1]?=some (i64 z))(hof2:0+(dP (n:Int) a.f a.t a.m:Int).toNat*1+1<=(cur.map i64).length): ∃M',Ev Try.prog [] 48 [pt C 0,.agg ⟨[i64 a.f,i64 a.t,i64 a.m,i64 a.c,i64 a.e,i64 a.a,i64 a.b]⟩,i64 num] M (.bool true) M'/\Ext M0 M'/\aB M'/\M'.get K=some ⟨splice (cur.map i64) (0+(dP (n:Int) a.f a.t a.m:Int).toNat*1) [i64 num],3,1,0,true⟩/\(∀id k,M.get id=some k->id≠K->M'.get id=some k):=by
 obtain⟨b1,M2,c5,c6,g5,E6,d1⟩:=bG hM ⟨[i64 a.f,i64 a.t,i64 a.m,i64 a.c,i64 a.e,i64 a.a,i64 a.b],42,7,0,true⟩
 have g9:=E6.old gC
 have b6:=E6.old gK
 have c0:=X0.trans E6
 obtain⟨Kb,d7,a0,d4,d2,c4,a6,a9,b9⟩:=aH (x:=((n,cur),a.f,a.t,a.m)) d1 yP (⟨⟨_,_,_,_,rfl,⟨C,K,n*n*5+1,.func (.func 47) ⟨[pt B 0]⟩ ⟨[]⟩,rfl,(by rw[hcl];exact g9),b6⟩,rfl,rfl,rfl⟩,hrange⟩)
 have b7:=a6.old g9
 have b8:=a6.old b6
 have a7:Kb=i64 (dP (n:Int) a.f a.t a.m):=b9
 subst a7
 have b5:=c0.trans a6
 obtain⟨a1,a2⟩: ∃m:aA,m=aA.mk a0.blks a0.next a0.hide []:=⟨_,rfl⟩
 have c1:Ext (aA.mk M0.blks M0.next M0.hide []) a1:=by rw[a2];exact Ext.aside (b5)
 have b0:aB a1:=by rw[a2];exact aB.log a9
 have c7:a1.get C=some ⟨[i64 (n:Int),aD K 0 (n*n*5) (n*n*5+1),.func (.func 47) ⟨[pt B 0]⟩ ⟨[]⟩],73,3,0,true⟩:=by rw[a2];exact b7
 have c8:a1.get K=some ⟨cur.map i64,3,1,0,true⟩:=by rw[a2];exact b8
 obtain⟨a4,a3⟩: ∃m:aA,m=(aA.mk a1.blks a1.next a1.hide (a1.log++a0.log)):=⟨_,rfl⟩
 have c2:Ext M0 a4:=by rw[a3];exact Ext.join (b5) (c1)
 have b2:aB a4:=by rw[a3];exact b0
 have c9:a4.get C=some ⟨[i64 (n:Int),aD K 0 (n*n*5) (n*n*5+1),.func (.func 47) ⟨[pt B 0]⟩ ⟨[]⟩],73,3,0,true⟩:=by rw[a3];exact c7
 have d0:a4.get K=some ⟨cur.map i64,3,1,0,true⟩:=by rw[a3];exact c8
 obtain⟨a5,q46,a8,b4,c3,b3,d3⟩:=bH (o:=0+(dP (n:Int) a.f a.t a.m:Int).toNat*1) (v:=(i64 num)) (new:=splice (cur.map i64) (0+(dP (n:Int) a.f a.t a.m:Int).toNat*1) [i64 num]) c2 nK b2 He d0 rfl rfl (Nat.zero_le _) hof2 rfl
 replace a8:a5.get K=some ⟨splice (cur.map i64) (0+(dP (n:Int) a.f a.t a.m:Int).toNat*1) [i64 num],3,1,0,true⟩:=a8
 have hraw:oT Try.prog [] 60 Try.f48 Tg [pt C 0,.agg ⟨[i64 a.f,i64 a.t,i64 a.m,i64 a.c,i64 a.e,i64 a.a,i64 a.b]⟩,i64 num] M [bL 1 (pt b1 0) M2,aU 9 (i64 a.f),aU 13 (i64 a.t),aU 17 (i64 a.m),bL 19 (i64 (dP (n:Int) a.f a.t a.m)) a0,aU 29 (aD K 0 (n*n*5) (n*n*5+1)),aM 33,aU 35 (i64 z),aO 44,aO 46,aO 48,aO 50,aO 52,aO 54,aO 56,aO 58,aO 60,aO 63,aU 72 (aD K 0 (n*n*5) (n*n*5+1)),aM 78,lP 80 a5] 6=some (.ret,some (.bool true),a5,[.eq (fE Try.prog 42 (.agg ⟨[i64 a.f,i64 a.t,i64 a.m,i64 a.c,i64 a.e,i64 a.a,i64 a.b]⟩) M) (1,.val (pt b1 0),M2),qL 3 b1 0 M2 (i64 a.f),qL 3 b1 1 M2 (i64 a.t),qL 3 b1 2 M2 (i64 a.m),qC 72 [pt C 0,i64 a.f,i64 a.t,i64 a.m] M2 (i64 (dP (n:Int) a.f a.t a.m)) a0,qL 22 C 1 a0 (aD K 0 (n*n*5) (n*n*5+1)),.q (.inb (dP (n:Int) a.f a.t a.m) (n*n*5)) (fM true),qL 3 K (0+(dP (n:Int) a.f a.t a.m:Int).toNat*1) a0 (i64 z),qF (!(z==(-1:Int))),qF (!(z==(-1:Int))),qF (!(z==(-1:Int))),qF (!(z==(-1:Int))),qF (!(z==(-1:Int))),qF (!(z==(-1:Int))),qF (!(z==(-1:Int))),qF (!(z==(-1:Int))),qF (!(z==(-1:Int))),qF (!(z==(-1:Int))),qT (cQ [] []),qL 22 C 1 (aA.mk a0.blks a0.next a0.hide ([]++a0.log)) (aD K 0 (n*n*5) (n*n*5+1)),.q (.inb (dP (n:Int) a.f a.t a.m) (n*n*5)) (fM true),qS 3 K (0+(dP (n:Int) a.f a.t a.m:Int).toNat*1) (i64 num) (aA.mk a0.blks a0.next a0.hide ([]++a0.log)) a5]):=by kernel_rfl
 have d5:(aA.mk a0.blks a0.next a0.hide ([]++a0.log))=(aA.mk a1.blks a1.next a1.hide (a1.log++a0.log)):=by rw[a2]
 have d6:(aA.mk a1.blks a1.next a1.hide (a1.log++a0.log))=a4:=a3.symm
 try rw[d5] at hraw
 try rw[d6] at hraw
 have hkp: ∀id k,M.get id=some k->id≠K->a5.get id=some k:=fun id k g h_K=>by
  have g:=E6.old g
  have g:=a6.old g
  have g:a1.get id=some k:=by rw[a2];exact g
  have g:a4.get id=some k:=by rw[a3];exact g
  have g:=((fun id h _=>b4 id h) id h_K (aA.lt_of_get g)).trans g
  exact g
 exact⟨a5,Ev.told_tmp aJ aI Try.func48 xW (by kernel_rfl) Og (fun B=>lO (gF 72 Ry (gQ _))) (fun _ _=>rfl) hraw (hk (bZ (by rw[<-c5,<-c6];kernel_rfl) Nat.one_ne_zero) (hk (lC cO g5 rfl) (hk (lC cO g5 rfl) (hk (lC cO g5 rfl) (hk (aN rfl d4 d2 c4) (hk (lC hI b7 rfl) (hk (eW hi0.1 hi0.2) (hk (iP (bW (a:=⟨K,0+(dP (n:Int) a.f a.t a.m:Int).toNat*1,none⟩) cO b8 hc1)) (hk (bF (by rw[cc0];rfl)) (hk (bF (by rw[cc0];rfl)) (hk (bF (by rw[cc0];rfl)) (hk (bF (by rw[cc0];rfl)) (hk (bF (by rw[cc0];rfl)) (hk (bF (by rw[cc0];rfl)) (hk (bF (by rw[cc0];rfl)) (hk (bF (by rw[cc0];rfl)) (hk (bF (by rw[cc0];rfl)) (hk (bF (by rw[cc0];rfl)) (hk (dZ (by simp)) (hk (lC hI c9 rfl) (hk (eW hi0.1 hi0.2) (hk (eF q46) hn)))))))))))))))))))))),c3,b3,a8,hkp⟩
theorem w48E1(B C K n:Nat)(cur:List Int)(a:A7)(num:Int)(y:List E4)(z:Int){M M0:aA}(hM:aB M)(X0:Ext M0 M)(gC:M.get C=some ⟨[i64 n,aD K 0 (n*n*5) (n*n*5+1),.func (.func 47) ⟨[pt B 0]⟩ ⟨[]⟩],73,3,0,true⟩)(gK:M.get K=some ⟨cur.map i64,3,1,0,true⟩)(nK:M0.next<=K)(dCK:C≠K)(hY:(zX 53) y (pt B 0) (bP [(K,K+1)] M))(hcl:cur.length=n*n*5)(hrange:n<=60/\(0<=a.f/\a.f<(n:Int))/\(0<=a.t/\a.t<(n:Int))/\(0<=a.m/\a.m<5))(hz:z≠ -1->0<=z/\z<(y.length:Int))(cc0:(z==(-1:Int))=false)(cc1:(decide ((fT y z)<=a.c))=true)(hi0:0<=(dP (n:Int) a.f a.t a.m:Int)/\(dP (n:Int) a.f a.t a.m:Int)<(n*n*5))(hc1:(cur.map i64)[0+(dP (n:Int) a.f a.t a.m:Int).toNat*1]?=some (i64 z)): ∃M',Ev Try.prog [] 48 [pt C 0,.agg ⟨[i64 a.f,i64 a.t,i64 a.m,i64 a.c,i64 a.e,i64 a.a,i64 a.b]⟩,i64 num] M (.bool false) M'/\Ext M0 M'/\aB M'/\M'.get K=some ⟨cur.map i64,3,1,0,true⟩/\(∀id k,M.get id=some k->id≠K->M'.get id=some k):=by
 obtain⟨b1,M2,c0,d3,g5,E6,e0⟩:=bG hM ⟨[i64 a.f,i64 a.t,i64 a.m,i64 a.c,i64 a.e,i64 a.a,i64 a.b],42,7,0,true⟩
 have F8:=iB (R:=(zX 53)) hY c0 E6
 have g9:=E6.old gC
 have c1:=E6.old gK
 have c9:=X0.trans E6
 obtain⟨Kb,f0,a0,e3,e1,d2,a6,b3,c5⟩:=aH (x:=((n,cur),a.f,a.t,a.m)) e0 yP (⟨⟨_,_,_,_,rfl,⟨C,K,n*n*5+1,.func (.func 47) ⟨[pt B 0]⟩ ⟨[]⟩,rfl,(by rw[hcl];exact g9),c1⟩,rfl,rfl,rfl⟩,hrange⟩)
 have c6:=dW (R:=(zX 53)) F8 a6
 have c2:=a6.old g9
 have c3:=a6.old c1
 have c4:=a6.old g5
 have b0:Kb=i64 (dP (n:Int) a.f a.t a.m):=c5
 subst b0
 have a8:=c9.trans a6
 obtain⟨a4,a2⟩: ∃m:aA,m=aA.mk a0.blks a0.next a0.hide []:=⟨_,rfl⟩
 have d0:Ext (aA.mk M0.blks M0.next M0.hide []) a4:=by rw[a2];exact Ext.aside (a8)
 have b7:a4.log= []:=by rw[a2]
 have b4:aB a4:=by rw[a2];exact aB.log b3
 have d4:a4.get C=some ⟨[i64 (n:Int),aD K 0 (n*n*5) (n*n*5+1),.func (.func 47) ⟨[pt B 0]⟩ ⟨[]⟩],73,3,0,true⟩:=by rw[a2];exact c2
 have d5:a4.get K=some ⟨cur.map i64,3,1,0,true⟩:=by rw[a2];exact c3
 have ltb1M15:b1<a0.next:=by have h:=aA.lt_of_get c4;exact h
 have d6:a4.get b1=some ⟨[i64 a.f,i64 a.t,i64 a.m,i64 a.c,i64 a.e,i64 a.a,i64 a.b],42,7,0,true⟩:=by rw[a2];exact c4
 have c7:=eM (R:=(zX 53)) (M':=a4) c6 (fun id b h=>by rw[a2];exact h)
 obtain⟨e9,f1,a1,e4,e2,b9,a7,b5,c8⟩:=aH (x:=(y,z)) b4 Ua (⟨⟨_,_,rfl,eI (R:=(zX 53)) c7,rfl⟩,hz (by intro e;rw[e] at cc0;cases cc0)⟩)
 have d7:=a7.old d5
 have d8:=a7.old d6
 have b2:e9=i64 (fT y z):=c8
 subst b2
 have b8:a1.log= []:=by rw[<-b9];exact b7
 have a9:=d0.trans a7
 obtain⟨a5,a3⟩: ∃m:aA,m=(aA.mk a1.blks a1.next a1.hide (a1.log++a0.log)):=⟨_,rfl⟩
 have d1:Ext M0 a5:=by rw[a3];exact Ext.join (a8) (a9)
 have b6:aB a5:=by rw[a3];exact b5
 have d9:a5.get K=some ⟨cur.map i64,3,1,0,true⟩:=by rw[a3];exact d7
 have hraw:oT Try.prog [] 60 Try.f48 Tg [pt C 0,.agg ⟨[i64 a.f,i64 a.t,i64 a.m,i64 a.c,i64 a.e,i64 a.a,i64 a.b]⟩,i64 num] M [bL 1 (pt b1 0) M2,aU 9 (i64 a.f),aU 13 (i64 a.t),aU 17 (i64 a.m),bL 19 (i64 (dP (n:Int) a.f a.t a.m)) a0,aU 29 (aD K 0 (n*n*5) (n*n*5+1)),aM 33,aU 35 (i64 z),aM 44,aM 46,aM 48,aM 50,aU 51 (.func (.func 47) ⟨[pt B 0]⟩ ⟨[]⟩),aM 52,aM 54,bL 55 (i64 (fT y z)) a1,aM 56,aM 58,aU 59 (i64 a.c),aM 60,aM 63,aM 64] 6=some (.ret,some (.bool false),aA.mk a1.blks a1.next a0.hide (a1.log++a0.log),[.eq (fE Try.prog 42 (.agg ⟨[i64 a.f,i64 a.t,i64 a.m,i64 a.c,i64 a.e,i64 a.a,i64 a.b]⟩) M) (1,.val (pt b1 0),M2),qL 3 b1 0 M2 (i64 a.f),qL 3 b1 1 M2 (i64 a.t),qL 3 b1 2 M2 (i64 a.m),qC 72 [pt C 0,i64 a.f,i64 a.t,i64 a.m] M2 (i64 (dP (n:Int) a.f a.t a.m)) a0,qL 22 C 1 a0 (aD K 0 (n*n*5) (n*n*5+1)),.q (.inb (dP (n:Int) a.f a.t a.m) (n*n*5)) (fM true),qL 3 K (0+(dP (n:Int) a.f a.t a.m:Int).toNat*1) a0 (i64 z),qT (!(z==(-1:Int))),qT (!(z==(-1:Int))),qT (!(z==(-1:Int))),qT (!(z==(-1:Int))),qL 70 C 2 (aA.mk a0.blks a0.next a0.hide []) (.func (.func 47) ⟨[pt B 0]⟩ ⟨[]⟩),qT (!(z==(-1:Int))),qT (!(z==(-1:Int))),qC 47 [pt B 0,i64 z] (aA.mk a0.blks a0.next a0.hide []) (i64 (fT y z)) a1,qT (!(z==(-1:Int))),qT (!(z==(-1:Int))),qL 3 b1 3 (aA.mk a1.blks a1.next (aS 519 [⟨8,1,a0.next,a1.next⟩,⟨6,1,a0.next,a0.next⟩]++a0.hide) a1.log) (i64 a.c),qT (Nat.blt b1 a0.next),qT (!(z==(-1:Int))),qT (!(z==(-1:Int))),qT (cQ [b1] a1.log),qT (decide ((fT y z)<=a.c))]):=by kernel_rfl
 have e5:aA.mk a0.blks a0.next a0.hide []=a4:=a2.symm
 have e6:aA.mk a1.blks a1.next (aS 519 [⟨8,1,a0.next,a1.next⟩,⟨6,1,a0.next,a0.next⟩]++a0.hide) a1.log=bP (aS 519 [⟨8,1,a0.next,a1.next⟩,⟨6,1,a0.next,a0.next⟩]) a1:=by rw[(show a0.hide=a1.hide from((a8).hide.trans (a9).hide.symm))];rfl
 have e7:(aA.mk a1.blks a1.next a0.hide (a1.log++a0.log))=(aA.mk a1.blks a1.next a1.hide (a1.log++a0.log)):=by rw[(show a0.hide=a1.hide from((a8).hide.trans (a9).hide.symm))]
 have e8:(aA.mk a1.blks a1.next a1.hide (a1.log++a0.log))=a5:=a3.symm
 try rw[e5] at hraw
 try rw[e6] at hraw
 try rw[e7] at hraw
 try rw[e8] at hraw
 have hkp: ∀id k,M.get id=some k->id≠K->a5.get id=some k:=fun id k g h_K=>by
  have g:=E6.old g
  have g:=a6.old g
  have g:a4.get id=some k:=by rw[a2];exact g
  have g:=a7.old g
  have g:a5.get id=some k:=by rw[a3];exact g
  exact g
 exact⟨a5,Ev.told_tmp aJ aI Try.func48 xW (by kernel_rfl) Og (fun B=>lO (gF 47 Q47 (gF 72 Ry (gQ _)))) (fun _ _=>rfl) hraw (hk (bZ (by rw[<-c0,<-d3];kernel_rfl) Nat.one_ne_zero) (hk (lC cO g5 rfl) (hk (lC cO g5 rfl) (hk (lC cO g5 rfl) (hk (aN rfl e3 e1 d2) (hk (lC hI c2 rfl) (hk (eW hi0.1 hi0.2) (hk (iP (bW (a:=⟨K,0+(dP (n:Int) a.f a.t a.m:Int).toNat*1,none⟩) cO c3 hc1)) (hk (bT (by rw[cc0];rfl)) (hk (bT (by rw[cc0];rfl)) (hk (bT (by rw[cc0];rfl)) (hk (bT (by rw[cc0];rfl)) (hk (lC Sf d4 rfl) (hk (bT (by rw[cc0];rfl)) (hk (bT (by rw[cc0];rfl)) (hk (aN rfl e4 e2 b9) (hk (bT (by rw[cc0];rfl)) (hk (bT (by rw[cc0];rfl)) (hk (lC cO (bS.2 ⟨cY (by simp;omega),d8⟩) rfl) (hk (mE ltb1M15) (hk (bT (by rw[cc0];rfl)) (hk (bT (by rw[cc0];rfl)) (hk (dZ (by rw[b8];simp<;>omega)) (hk (bT cc1) hn)))))))))))))))))))))))),d1,b6,d9,hkp⟩
theorem w48E2(B C K n:Nat)(cur:List Int)(a:A7)(num:Int)(y:List E4)(z:Int){M M0:aA}(hM:aB M)(X0:Ext M0 M)(gC:M.get C=some ⟨[i64 n,aD K 0 (n*n*5) (n*n*5+1),.func (.func 47) ⟨[pt B 0]⟩ ⟨[]⟩],73,3,0,true⟩)(gK:M.get K=some ⟨cur.map i64,3,1,0,true⟩)(nK:M0.next<=K)(dCK:C≠K)(hY:(zX 53) y (pt B 0) (bP [(K,K+1)] M))(hcl:cur.length=n*n*5)(hrange:n<=60/\(0<=a.f/\a.f<(n:Int))/\(0<=a.t/\a.t<(n:Int))/\(0<=a.m/\a.m<5))(hz:z≠ -1->0<=z/\z<(y.length:Int))(cc0:(z==(-1:Int))=false)(cc1:(decide ((fT y z)<=a.c))=false)(hi0:0<=(dP (n:Int) a.f a.t a.m:Int)/\(dP (n:Int) a.f a.t a.m:Int)<(n*n*5))(hc1:(cur.map i64)[0+(dP (n:Int) a.f a.t a.m:Int).toNat*1]?=some (i64 z))(hof2:0+(dP (n:Int) a.f a.t a.m:Int).toNat*1+1<=(cur.map i64).length): ∃M',Ev Try.prog [] 48 [pt C 0,.agg ⟨[i64 a.f,i64 a.t,i64 a.m,i64 a.c,i64 a.e,i64 a.a,i64 a.b]⟩,i64 num] M (.bool true) M'/\Ext M0 M'/\aB M'/\M'.get K=some ⟨splice (cur.map i64) (0+(dP (n:Int) a.f a.t a.m:Int).toNat*1) [i64 num],3,1,0,true⟩/\(∀id k,M.get id=some k->id≠K->M'.get id=some k):=by
 obtain⟨b1,M2,c4,d9,g5,E6,e7⟩:=bG hM ⟨[i64 a.f,i64 a.t,i64 a.m,i64 a.c,i64 a.e,i64 a.a,i64 a.b],42,7,0,true⟩
 have F8:=iB (R:=(zX 53)) hY c4 E6
 have g9:=E6.old gC
 have c5:=E6.old gK
 have d4:=X0.trans E6
 obtain⟨Kb,f9,a0,f1,e8,d8,a5,b5,d0⟩:=aH (x:=((n,cur),a.f,a.t,a.m)) e7 yP (⟨⟨_,_,_,_,rfl,⟨C,K,n*n*5+1,.func (.func 47) ⟨[pt B 0]⟩ ⟨[]⟩,rfl,(by rw[hcl];exact g9),c5⟩,rfl,rfl,rfl⟩,hrange⟩)
 have d1:=dW (R:=(zX 53)) F8 a5
 have c6:=a5.old g9
 have c7:=a5.old c5
 have c8:=a5.old g5
 have b2:Kb=i64 (dP (n:Int) a.f a.t a.m):=d0
 subst b2
 have a9:=d4.trans a5
 obtain⟨a4,a2⟩: ∃m:aA,m=aA.mk a0.blks a0.next a0.hide []:=⟨_,rfl⟩
 have d5:Ext (aA.mk M0.blks M0.next M0.hide []) a4:=by rw[a2];exact Ext.aside (a9)
 have c1:a4.log= []:=by rw[a2]
 have b6:aB a4:=by rw[a2];exact aB.log b5
 have c9:a4.get C=some ⟨[i64 (n:Int),aD K 0 (n*n*5) (n*n*5+1),.func (.func 47) ⟨[pt B 0]⟩ ⟨[]⟩],73,3,0,true⟩:=by rw[a2];exact c6
 have e0:a4.get K=some ⟨cur.map i64,3,1,0,true⟩:=by rw[a2];exact c7
 have ltb1M15:b1<a0.next:=by have h:=aA.lt_of_get c8;exact h
 have e1:a4.get b1=some ⟨[i64 a.f,i64 a.t,i64 a.m,i64 a.c,i64 a.e,i64 a.a,i64 a.b],42,7,0,true⟩:=by rw[a2];exact c8
 have d2:=eM (R:=(zX 53)) (M':=a4) d1 (fun id b h=>by rw[a2];exact h)
 obtain⟨f8,g0,a1,f2,e9,c3,a8,b7,d3⟩:=aH (x:=(y,z)) b6 Ua (⟨⟨_,_,rfl,eI (R:=(zX 53)) d2,rfl⟩,hz (by intro e;rw[e] at cc0;cases cc0)⟩)
 have e2:=a8.old c9
 have e3:=a8.old e0
 have e4:=a8.old e1
 have b3:f8=i64 (fT y z):=d3
 subst b3
 have c2:a1.log= []:=by rw[<-c3];exact c1
 have b0:=d5.trans a8
 obtain⟨a6,a3⟩: ∃m:aA,m=(aA.mk a1.blks a1.next a1.hide (a1.log++a0.log)):=⟨_,rfl⟩
 have d6:Ext M0 a6:=by rw[a3];exact Ext.join (a9) (b0)
 have b8:aB a6:=by rw[a3];exact b7
 have e5:a6.get C=some ⟨[i64 (n:Int),aD K 0 (n*n*5) (n*n*5+1),.func (.func 47) ⟨[pt B 0]⟩ ⟨[]⟩],73,3,0,true⟩:=by rw[a3];exact e2
 have e6:a6.get K=some ⟨cur.map i64,3,1,0,true⟩:=by rw[a3];exact e3
 obtain⟨a7,q62,b4,c0,d7,b9,f0⟩:=bH (o:=0+(dP (n:Int) a.f a.t a.m:Int).toNat*1) (v:=(i64 num)) (new:=splice (cur.map i64) (0+(dP (n:Int) a.f a.t a.m:Int).toNat*1) [i64 num]) d6 nK b8 He e6 rfl rfl (Nat.zero_le _) hof2 rfl
 replace b4:a7.get K=some ⟨splice (cur.map i64) (0+(dP (n:Int) a.f a.t a.m:Int).toNat*1) [i64 num],3,1,0,true⟩:=b4
 have hraw:oT Try.prog [] 60 Try.f48 Tg [pt C 0,.agg ⟨[i64 a.f,i64 a.t,i64 a.m,i64 a.c,i64 a.e,i64 a.a,i64 a.b]⟩,i64 num] M [bL 1 (pt b1 0) M2,aU 9 (i64 a.f),aU 13 (i64 a.t),aU 17 (i64 a.m),bL 19 (i64 (dP (n:Int) a.f a.t a.m)) a0,aU 29 (aD K 0 (n*n*5) (n*n*5+1)),aM 33,aU 35 (i64 z),aM 44,aM 46,aM 48,aM 50,aU 51 (.func (.func 47) ⟨[pt B 0]⟩ ⟨[]⟩),aM 52,aM 54,bL 55 (i64 (fT y z)) a1,aM 56,aM 58,aU 59 (i64 a.c),aM 60,aM 63,aO 64,aU 72 (aD K 0 (n*n*5) (n*n*5+1)),aM 78,lP 80 a7] 6=some (.ret,some (.bool true),a7,[.eq (fE Try.prog 42 (.agg ⟨[i64 a.f,i64 a.t,i64 a.m,i64 a.c,i64 a.e,i64 a.a,i64 a.b]⟩) M) (1,.val (pt b1 0),M2),qL 3 b1 0 M2 (i64 a.f),qL 3 b1 1 M2 (i64 a.t),qL 3 b1 2 M2 (i64 a.m),qC 72 [pt C 0,i64 a.f,i64 a.t,i64 a.m] M2 (i64 (dP (n:Int) a.f a.t a.m)) a0,qL 22 C 1 a0 (aD K 0 (n*n*5) (n*n*5+1)),.q (.inb (dP (n:Int) a.f a.t a.m) (n*n*5)) (fM true),qL 3 K (0+(dP (n:Int) a.f a.t a.m:Int).toNat*1) a0 (i64 z),qT (!(z==(-1:Int))),qT (!(z==(-1:Int))),qT (!(z==(-1:Int))),qT (!(z==(-1:Int))),qL 70 C 2 (aA.mk a0.blks a0.next a0.hide []) (.func (.func 47) ⟨[pt B 0]⟩ ⟨[]⟩),qT (!(z==(-1:Int))),qT (!(z==(-1:Int))),qC 47 [pt B 0,i64 z] (aA.mk a0.blks a0.next a0.hide []) (i64 (fT y z)) a1,qT (!(z==(-1:Int))),qT (!(z==(-1:Int))),qL 3 b1 3 (aA.mk a1.blks a1.next (aS 519 [⟨8,1,a0.next,a1.next⟩,⟨6,1,a0.next,a0.next⟩]++a0.hide) a1.log) (i64 a.c),qT (Nat.blt b1 a0.next),qT (!(z==(-1:Int))),qT (!(z==(-1:Int))),qT (cQ [b1] a1.log),qF (decide ((fT y z)<=a.c)),qL 22 C 1 (aA.mk a1.blks a1.next a0.hide (a1.log++a0.log)) (aD K 0 (n*n*5) (n*n*5+1)),.q (.inb (dP (n:Int) a.f a.t a.m) (n*n*5)) (fM true),qS 3 K (0+(dP (n:Int) a.f a.t a.m:Int).toNat*1) (i64 num) (aA.mk a1.blks a1.next a0.hide (a1.log++a0.log)) a7]):=by kernel_rfl
 have f3:aA.mk a0.blks a0.next a0.hide []=a4:=a2.symm
 have f5:aA.mk a1.blks a1.next (aS 519 [⟨8,1,a0.next,a1.next⟩,⟨6,1,a0.next,a0.next⟩]++a0.hide) a1.log=bP (aS 519 [⟨8,1,a0.next,a1.next⟩,⟨6,1,a0.next,a0.next⟩]) a1:=by rw[(show a0.hide=a1.hide from((a9).hide.trans (b0).hide.symm))];rfl
 have f6:(aA.mk a1.blks a1.next a0.hide (a1.log++a0.log))=(aA.mk a1.blks a1.next a1.hide (a1.log++a0.log)):=by rw[(show a0.hide=a1.hide from((a9).hide.trans (b0).hide.symm))]
 have f7:(aA.mk a1.blks a1.next a1.hide (a1.log++a0.log))=a6:=a3.symm
 try rw[f3] at hraw
 try rw[f5] at hraw
 try rw[f6] at hraw
 try rw[f7] at hraw
 have hkp: ∀id k,M.get id=some k->id≠K->a7.get id=some k:=fun id k g h_K=>by
  have g:=E6.old g
  have g:=a5.old g
  have g:a4.get id=some k:=by rw[a2];exact g
  have g:=a8.old g
  have g:a6.get id=some k:=by rw[a3];exact g
  have g:=((fun id h _=>c0 id h) id h_K (aA.lt_of_get g)).trans g
  exact g
 exact⟨a7,Ev.told_tmp aJ aI Try.func48 xW (by kernel_rfl) Og (fun B=>lO (gF 47 Q47 (gF 72 Ry (gQ _)))) (fun _ _=>rfl) hraw (hk (bZ (by rw[<-c4,<-d9];kernel_rfl) Nat.one_ne_zero) (hk (lC cO g5 rfl) (hk (lC cO g5 rfl) (hk (lC cO g5 rfl) (hk (aN rfl f1 e8 d8) (hk (lC hI c6 rfl) (hk (eW hi0.1 hi0.2) (hk (iP (bW (a:=⟨K,0+(dP (n:Int) a.f a.t a.m:Int).toNat*1,none⟩) cO c7 hc1)) (hk (bT (by rw[cc0];rfl)) (hk (bT (by rw[cc0];rfl)) (hk (bT (by rw[cc0];rfl)) (hk (bT (by rw[cc0];rfl)) (hk (lC Sf c9 rfl) (hk (bT (by rw[cc0];rfl)) (hk (bT (by rw[cc0];rfl)) (hk (aN rfl f2 e9 c3) (hk (bT (by rw[cc0];rfl)) (hk (bT (by rw[cc0];rfl)) (hk (lC cO (bS.2 ⟨cY (by simp;omega),e4⟩) rfl) (hk (mE ltb1M15) (hk (bT (by rw[cc0];rfl)) (hk (bT (by rw[cc0];rfl)) (hk (dZ (by rw[c2];simp<;>omega)) (hk (bF cc1) (hk (lC hI e5 rfl) (hk (eW hi0.1 hi0.2) (hk (eF q62) hn))))))))))))))))))))))))))),d7,b9,b4,hkp⟩
theorem Vc{x:LX (List E4)}{lv:List Value}{M:aA}(hM:aB M)(h:(Oa 73 47 fT (zX 53) (fun y i=>0<=i/\i<(y.length:Int))).A x lv M)(hlo:x.K<=M.next): ∃v M',TO Try.prog 48 (Oa 73 47 fT (zX 53) (fun y i=>0<=i/\i<(y.length:Int))) lv M v M':=by
 have hA:=h
 obtain⟨C,K,B,n,cur,y,a,num⟩:=x
 obtain⟨rfl,gC,gK,hY,dCK,hn,hcl,hf,ht,hm,hok⟩:=h
 simp only at gC gK hY dCK hn hcl hf ht hm hok hlo
 have X0:=Ext.cut hlo
 have nK:(cut K M).next<=K:=Nat.le_refl _
 have hp:=pZ hf ht hm
 have hrange:n<=60/\(0<=a.f/\a.f<(n:Int))/\(0<=a.t/\a.t<(n:Int))/\(0<=a.m/\a.m<5):=⟨hn,hf,ht,hm⟩
 have hz:bC cur (iS n a)≠ -1->0<=bC cur (iS n a)/\bC cur (iS n a)<(y.length:Int):=fun e=>hok.resolve_left e
 have hin:0<=((dP (n:Int) (a.f) (a.t) (a.m)):Int)/\((dP (n:Int) (a.f) (a.t) (a.m)):Int)<(n*n*5):=by refine⟨hp.1,?_⟩;have:=hp.2;push_cast at this⊢;exact this
 have hk:iS n a<cur.length:=by rw[hcl];unfold iS;omega
 have hat:0+((dP (n:Int) (a.f) (a.t) (a.m)):Int).toNat*1=iS n a:=by unfold iS;omega
 have hcc:(cur.map i64)[0+((dP (n:Int) (a.f) (a.t) (a.m)):Int).toNat*1]?=some (i64 (bC cur (iS n a))):=by rw[hat,List.getElem?_map,kK hk];rfl
 have hof:0+((dP (n:Int) (a.f) (a.t) (a.m)):Int).toNat*1+1<=(cur.map i64).length:=by rw[hat,List.length_map];omega
 have hspl:splice (cur.map i64) (0+((dP (n:Int) (a.f) (a.t) (a.m)):Int).toNat*1) [i64 num]=(cur.set (iS n a) num).map i64:=by rw[hat,jR _ _ _ (by simpa using hk),List.map_set]
 have fin: ∀{bv:Bool} {cu:List Int} {M':aA},Ev Try.prog [] 48 [pt C 0,.agg ⟨kB a⟩,i64 num] M (.bool bv) M'->Ext (cut K M) M'->M'.get K=some ⟨cu.map i64,3,1,0,true⟩->(∀id k,M.get id=some k->id≠K->M'.get id=some k)->bv=fB (fT y) (bC cur (iS n a)) a.c->cu=iD fT ⟨C,K,B,n,cur,y,a,num⟩-> ∃v M',TO Try.prog 48 (Oa 73 47 fT (zX 53) (fun y i=>0<=i/\i<(y.length:Int))) [pt C 0,.agg ⟨kB a⟩,i64 num] M v M':=
  fun h1 h2 h3 h4 e1 e2=>⟨_,_,h1,⟨C,K,B,n,cur,y,a,num⟩,hA,hlo,h2,h4,by rw[e1],by rw[<-e2];exact h3⟩
 cases c0:bC cur (iS n a)==(-1:Int) with
 |true=>
  obtain⟨M',h1,h2,h3,h4,h5⟩:=w48E0 B C K n cur a num y (bC cur (iS n a)) hM X0 gC gK nK dCK hY hcl hrange hz c0 hin hcc hof
  rw[hspl] at h4
  exact fin h1 h2 h4 h5 (by simp [fB,c0]) (by simp [iD,fB,c0])
 |false=>
  cases c1:decide (fT y (bC cur (iS n a))<=a.c) with
  |true=>
   obtain⟨M',h1,h2,h3,h4,h5⟩:=w48E1 B C K n cur a num y (bC cur (iS n a)) hM X0 gC gK nK dCK hY hcl hrange hz c0 c1 hin hcc
   have e:fB (fT y) (bC cur (iS n a)) a.c=false:=by simp only [fB,c0,Bool.false_or];exact decide_eq_false (by have:=of_decide_eq_true c1;omega)
   exact fin h1 h2 h4 h5 e.symm (by simp [iD,e])
  |false=>
   obtain⟨M',h1,h2,h3,h4,h5⟩:=w48E2 B C K n cur a num y (bC cur (iS n a)) hM X0 gC gK nK dCK hY hcl hrange hz c0 c1 hin hcc hof
   rw[hspl] at h4
   have e:fB (fT y) (bC cur (iS n a)) a.c=true:=by simp only [fB,c0,Bool.false_or];exact decide_eq_true (by have:=of_decide_eq_false c1;omega)
   exact fin h1 h2 h4 h5 e.symm (by simp [iD,e])
theorem nn5{n:Nat}(hn:1<=n/\n<=24):IntKind.wrap .i64 (IntKind.wrap .i64 ((n:Int)*(n:Int))*(5:Int))=((n*n*5:Nat):Int):=by
 have h1:(0:Int)<=(n:Int)*(n:Int):=Int.mul_nonneg (by omega) (by omega)
 have h2:(n:Int)*(n:Int)<=24*24:=Int.mul_le_mul (by omega) (by omega) (by omega) (by omega)
 rw[Go.Am.fD (i:=(n:Int)*(n:Int)) (by omega) (by omega),Go.Am.fD (by omega) (by omega)]
 push_cast;rfl
theorem rK45:Try.f45.results= #[.tmp 4]:=by kernel_rfl
theorem aAu(n B:Nat){M:aA}(hM:aB M)(hn24:1<=n/\n<=24): ∃v_ M',Ev Try.prog [] 45 [i64 n,.func (.func 46) ⟨[pt B 0]⟩ ⟨[]⟩] M v_ M'/\Ext M M'/\aB M'/\ ∃C K,v_=pt C 0/\M.next<=C/\M.next<=K/\C≠K/\M'.get C=some ⟨[i64 n,aD K 0 (n*n*5) (n*n*5+1),.func (.func 46) ⟨[pt B 0]⟩ ⟨[]⟩],73,3,0,true⟩/\M'.get K=some ⟨(kU n).map i64,3,1,0,true⟩:=by
 obtain⟨b1,M2,c0,c1,g5,E6,c4⟩:=bG hM ⟨[i64 (-1)],3,1,0,true⟩
 have X9:=(Ext.refl M).trans E6
 have a4:(IntKind.wrap .i64 ((IntKind.wrap .i64 ((n:Int)*(n:Int)))*(5:Int)))=(((n*n*5):Nat):Int):=nn5 hn24
 obtain⟨w11,c7,a6,c6,c5,b9,b6,b0,b7⟩:=aH (x:=((),n*n*5)) c4 Pn (⟨⟨_,_,rfl,⟨_,rfl,g5⟩,congrArg i64 a4⟩,⟨n,hn24,.inr rfl⟩⟩)
 obtain⟨a1,a9,a0,a5⟩:=b7
 subst a9
 have a0:=Nat.le_trans (X9).next a0
 have b5:=X9.trans b6
 obtain⟨a2,a7,a3,a8,c2,b4,b2⟩:=bG b0 ⟨[i64 (n:Int),aD a1 0 (n*n*5) (n*n*5+1),.func (.func 46) ⟨[pt B 0]⟩ ⟨[]⟩],73,3,0,true⟩
 have b3:M.next<=a2:=by rw[<-a3];exact b5.next
 have db10b23:a1≠a2:=by have:=aA.lt_of_get a5;omega
 have c3:=b4.old a5
 have b8:=b5.trans b4
 exact⟨pt a2 0,a7,Ev.told_tmp (tb:=[]) (n:=60) (F:=[bL 3 (aD b1 0 1 2) M2,bL 13 (aD a1 0 (n*n*5) (n*n*5+1)) a6,bL 25 (pt a2 0) a7]) aJ aI Try.func45 Rb (by kernel_rfl) rK45 (fun B=>lO (gF 44 Q44 (gQ _))) (fun _ _=>rfl) (by kernel_rfl) (hq (.eq (bE Try.prog 22 1 [(0,(i64 (-1)))] M) (1,.val (aD b1 0 1 2),M2)) (bZ (by rw[<-c0,<-c1];kernel_rfl) Nat.one_ne_zero) (hq (qC 44 [aD b1 0 1 2,i64 (IntKind.wrap .i64 ((IntKind.wrap .i64 ((n:Int)*(n:Int)))*(5:Int)))] M2 (aD a1 0 (n*n*5) (n*n*5+1)) a6) (aN rfl c6 c5 b9) (hq (.eq (fE Try.prog 73 (.agg ⟨[i64 (n:Int),aD a1 0 (n*n*5) (n*n*5+1),.func (.func 46) ⟨[pt B 0]⟩ ⟨[]⟩]⟩) a6) (1,.val (pt a2 0),a7)) (bZ (by rw[<-a3,<-a8];kernel_rfl) Nat.one_ne_zero) hn))),b8,b2,⟨a2,a1,rfl,b3,a0,Ne.symm db10b23,c2,by unfold kU;rw[List.map_replicate];exact c3⟩⟩
theorem aAv(n B:Nat){M:aA}(hM:aB M)(hn24:1<=n/\n<=24): ∃v_ M',Ev Try.prog [] 45 [i64 n,.func (.func 47) ⟨[pt B 0]⟩ ⟨[]⟩] M v_ M'/\Ext M M'/\aB M'/\ ∃C K,v_=pt C 0/\M.next<=C/\M.next<=K/\C≠K/\M'.get C=some ⟨[i64 n,aD K 0 (n*n*5) (n*n*5+1),.func (.func 47) ⟨[pt B 0]⟩ ⟨[]⟩],73,3,0,true⟩/\M'.get K=some ⟨(kU n).map i64,3,1,0,true⟩:=by
 obtain⟨b1,M2,c0,c1,g5,E6,c4⟩:=bG hM ⟨[i64 (-1)],3,1,0,true⟩
 have X9:=(Ext.refl M).trans E6
 have a4:(IntKind.wrap .i64 ((IntKind.wrap .i64 ((n:Int)*(n:Int)))*(5:Int)))=(((n*n*5):Nat):Int):=nn5 hn24
 obtain⟨w11,c7,a6,c6,c5,b9,b6,b0,b7⟩:=aH (x:=((),n*n*5)) c4 Pn (⟨⟨_,_,rfl,⟨_,rfl,g5⟩,congrArg i64 a4⟩,⟨n,hn24,.inr rfl⟩⟩)
 obtain⟨a1,a9,a0,a5⟩:=b7
 subst a9
 have a0:=Nat.le_trans (X9).next a0
 have b5:=X9.trans b6
 obtain⟨a2,a7,a3,a8,c2,b4,b2⟩:=bG b0 ⟨[i64 (n:Int),aD a1 0 (n*n*5) (n*n*5+1),.func (.func 47) ⟨[pt B 0]⟩ ⟨[]⟩],73,3,0,true⟩
 have b3:M.next<=a2:=by rw[<-a3];exact b5.next
 have db10b23:a1≠a2:=by have:=aA.lt_of_get a5;omega
 have c3:=b4.old a5
 have b8:=b5.trans b4
 exact⟨pt a2 0,a7,Ev.told_tmp (tb:=[]) (n:=60) (F:=[bL 3 (aD b1 0 1 2) M2,bL 13 (aD a1 0 (n*n*5) (n*n*5+1)) a6,bL 25 (pt a2 0) a7]) aJ aI Try.func45 Rb (by kernel_rfl) rK45 (fun B=>lO (gF 44 Q44 (gQ _))) (fun _ _=>rfl) (by kernel_rfl) (hq (.eq (bE Try.prog 22 1 [(0,(i64 (-1)))] M) (1,.val (aD b1 0 1 2),M2)) (bZ (by rw[<-c0,<-c1];kernel_rfl) Nat.one_ne_zero) (hq (qC 44 [aD b1 0 1 2,i64 (IntKind.wrap .i64 ((IntKind.wrap .i64 ((n:Int)*(n:Int)))*(5:Int)))] M2 (aD a1 0 (n*n*5) (n*n*5+1)) a6) (aN rfl c6 c5 b9) (hq (.eq (fE Try.prog 73 (.agg ⟨[i64 (n:Int),aD a1 0 (n*n*5) (n*n*5+1),.func (.func 47) ⟨[pt B 0]⟩ ⟨[]⟩]⟩) a6) (1,.val (pt a2 0),a7)) (bZ (by rw[<-a3,<-a8];kernel_rfl) Nat.one_ne_zero) hn))),b8,b2,⟨a2,a1,rfl,b3,a0,Ne.symm db10b23,c2,by unfold kU;rw[List.map_replicate];exact c3⟩⟩
def Wv(fc:FuncId)(x:Nat×Nat)(nx:Nat)(v:Value)(M:aA):Prop:= ∃C K,v=pt C 0/\nx<=C/\nx<=K/\C≠K/\M.get C=some ⟨[i64 (x.1:Int),aD K 0 (x.1*x.1*5) (x.1*x.1*5+1),.func (.func fc) ⟨[pt x.2 0]⟩ ⟨[]⟩],73,3,0,true⟩/\M.get K=some ⟨(kU x.1).map i64,3,1,0,true⟩
instance(fc:FuncId):AQ (Wv fc):=⟨fun hE ⟨C,K,h1,h2,h3,h4,h5,h6⟩=>⟨C,K,h1,h2,h3,h4,hE _ _ h5,hE _ _ h6⟩⟩
def Zg(fc:FuncId)(B:Nat)(v:Value)(_:aA):Prop:=v= .func (.func fc) ⟨[pt B 0]⟩ ⟨[]⟩
instance(fc:FuncId):AP (Zg fc):=⟨fun h k=>by unfold Zg at h k;rw[h] at k;simpa [pt] using k,fun _ h=>h⟩
abbrev Zn:=FC (iG (mG pN (Zg 46)) fun x=>1<=x.1/\x.1<=24) (Wv 46) id
theorem Va{x:Nat×Nat}{lv:List Value}{M:aA}(hM:aB M)(h:(iG (mG pN (Zg 46)) fun x=>1<=x.1/\x.1<=24) x lv M): ∃v M',lQ Try.prog [] 45 Zn lv M v M':=by
 refine FC.con h ?_
 obtain⟨⟨g0,g1,rfl,k0,k1⟩,hn⟩:=h
 obtain⟨n,B⟩:=x
 obtain rfl:=k0
 obtain rfl:=k1
 obtain⟨v,M',h1,h2,_,h3⟩:=aAu n B hM hn
 exact⟨v,M',h1,h2,h3⟩
abbrev Zo:=FC (iG (mG pN (Zg 47)) fun x=>1<=x.1/\x.1<=24) (Wv 47) id
theorem Vb{x:Nat×Nat}{lv:List Value}{M:aA}(hM:aB M)(h:(iG (mG pN (Zg 47)) fun x=>1<=x.1/\x.1<=24) x lv M): ∃v M',lQ Try.prog [] 45 Zo lv M v M':=by
 refine FC.con h ?_
 obtain⟨⟨g0,g1,rfl,k0,k1⟩,hn⟩:=h
 obtain⟨n,B⟩:=x
 obtain rfl:=k0
 obtain rfl:=k1
 obtain⟨v,M',h1,h2,_,h3⟩:=aAv n B hM hn
 exact⟨v,M',h1,h2,h3⟩
theorem Ni:(Try.prog.underlying 51).map dX=some false:=by kernel_rfl
theorem dS51:(Try.prog.info? 51).map (·.size)=some 1:=by kernel_rfl
def pBr(x:Nat×List Int×List Bool)(v:Value)(M:aA):Prop:= ∃B C G cg c0 c1 c2 c3 c4 c5,v=pt B 0/\M.get B=some ⟨[c0,c1,c2,c3,c4,c5,pt C 0,aD G 0 x.1 cg],53,8,0,true⟩/\pK 73 (x.1,x.2.1) (pt C 0) M/\M.get G=some ⟨x.2.2.map .bool,4,1,0,true⟩
instance:AP pBr:=⟨fun{x y v M} ⟨B,C,G,cg,c0,c1,c2,c3,c4,c5,h1,h2,h3,h4⟩ ⟨B',C',G',cg',d0,d1,d2,d3,d4,d5,k1,k2,k3,k4⟩=>by
 rw[h1] at k1
 simp only [pt,Value.pointer.injEq,Option.some.injEq,Addr.mk.injEq,and_true] at k1
 subst k1
 rw[h2] at k2
 simp only [Option.some.injEq,aW.mk.injEq,List.cons.injEq,Value.slice.injEq,Addr.mk.injEq,and_true,true_and,pt,Value.pointer.injEq] at k2
 obtain⟨_,_,_,_,_,_,rfl,⟨rfl,_⟩⟩:=k2
 rw[h4] at k4
 simp only [Option.some.injEq,aW.mk.injEq,and_true] at k4
 have e1:x.2.2=y.2.2:=(List.map_inj_right (fun x y h=>by simpa using h)).1 k4
 have e2:=AP.uniq (R:=pK 73) h3 k3
 obtain⟨a,b,c⟩:=x;obtain⟨a',b',c'⟩:=y
 simp_all,fun hE ⟨B,C,G,cg,c0,c1,c2,c3,c4,c5,h1,h2,h3,h4⟩=>⟨B,C,G,cg,c0,c1,c2,c3,c4,c5,h1,hE _ _ h2,AP.ext (R:=pK 73) hE h3,hE _ _ h4⟩⟩
def pLook(fl:FuncId)(_:Unit)(v:Value)(_:aA):Prop:=v= .func (.func fl) ⟨[]⟩ ⟨[]⟩
instance(fl:FuncId):AP (pLook fl):=⟨fun _ _=>rfl,fun _ h=>h⟩
theorem riOn(bB C K G n ck cg:Nat)(c0 c1 c2 c3 c4 c5 cl:Value)(cur:List Int)(gone:List Bool)(v u m:Nat)(S:Value)(l:List Int){M M0:aA}(hM:aB M)(X0:Ext M0 M)(gbB0:M0.get bB=some ⟨[c0,c1,c2,c3,c4,c5,pt C 0,aD G 0 n cg],53,8,0,true⟩)(gC0:M0.get C=some ⟨[i64 n,aD K 0 cur.length ck,cl],73,3,0,true⟩)(gK0:M0.get K=some ⟨cur.map i64,3,1,0,true⟩)(gG0:M0.get G=some ⟨gone.map Value.bool,4,1,0,true⟩)(hc60:n<=60)(hcl:cur.length=n*n*5)(hv:v<n)(hgl:gone.length=n)(hu:u<n)(hA:cU 3 1 M0 [bB,C,K,G] l.length (l.map i64) S M)(hl30:l.length<1073741824)(cc0:(decide ((m:Int)<(5:Int)))=true)(cc1:((bC cur (bX n .out v u m))==(-1:Int))=true): ∃T1 M',Rd Try.prog [] (q55.loopAt 2) Try.f55.ntmps (fr [(0,(pt bB 0)),(1,(.func (.func 56) ⟨[]⟩ ⟨[]⟩)),(2,(i64 (v:Int))),(7,S),(8,(i64 (u:Int))),(15,(aD G 0 n cg)),(16,(i64 (n:Int))),(17,(i64 (u:Int))),(23,(i64 (m:Int)))]) M .normal T1 M'/\ [0,1,2,7,8,15,16,17,23].map T1.get= [some (pt bB 0),some (.func (.func 56) ⟨[]⟩ ⟨[]⟩),some (i64 (v:Int)),some S,some (i64 (u:Int)),some (aD G 0 n cg),some (i64 (n:Int)),some (i64 (u:Int)),some (i64 (IntKind.wrap .i64 ((m:Int)+(1:Int))))]/\Ext M0 M'/\aB M'/\cU 3 1 M0 [bB,C,K,G] l.length (l.map i64) S M':=by
 have gbB:=X0.old gbB0
 have gC:=X0.old gC0
 have gK:=X0.old gK0
 obtain⟨w1,N2,M3,p4,l5,e6,E7,a3,F9⟩:=aH (x:=((n,cur),v,u,m)) hM Ue (⟨⟨_,_,_,_,rfl,⟨C,K,_,_,rfl,gC,gK⟩,rfl,rfl,rfl⟩,hc60,hcl,hv,hu,(by have:=of_decide_eq_true cc0;show m<5;omega)⟩)
 have a0:=hA.ext E7
 have a2:w1=i64 (bC cur (bX n .out v u m)):=F9
 subst a2
 have a1:=X0.trans E7
 obtain⟨T1,h1,h2⟩:=Rd.told (tb:=[]) (n:=60) (F:=[aM 2,aU 16 (pt C 0),bL 24 (i64 (bC cur (bX n .out v u m))) M3,aO 31]) aJ aI (fun B=>lO (gF 56 Q56 (gQ _))) (fun _ _=>rfl) (by kernel_rfl) (hk (bT cc0) (hk (lC (o:=6) Ni gbB rfl) (hq (qC 56 [pt C 0,i64 (v:Int),i64 (u:Int),i64 (m:Int)] M (i64 (bC cur (bX n .out v u m))) M3) (aN rfl p4 l5 e6) (hk (bF (x:=!((bC cur (bX n .out v u m))==(-1:Int))) (by rw[cc1];rfl)) hn))))
 exact⟨T1,M3,h1,h2,a1,a3,a0⟩
theorem riOa(bB C K G n ck cg:Nat)(c0 c1 c2 c3 c4 c5 cl:Value)(cur:List Int)(gone:List Bool)(v u m:Nat)(S:Value)(l:List Int){M M0:aA}(hM:aB M)(X0:Ext M0 M)(gbB0:M0.get bB=some ⟨[c0,c1,c2,c3,c4,c5,pt C 0,aD G 0 n cg],53,8,0,true⟩)(gC0:M0.get C=some ⟨[i64 n,aD K 0 cur.length ck,cl],73,3,0,true⟩)(gK0:M0.get K=some ⟨cur.map i64,3,1,0,true⟩)(gG0:M0.get G=some ⟨gone.map Value.bool,4,1,0,true⟩)(hc60:n<=60)(hcl:cur.length=n*n*5)(hv:v<n)(hgl:gone.length=n)(hu:u<n)(hA:cU 3 1 M0 [bB,C,K,G] l.length (l.map i64) S M)(hl30:l.length<1073741824)(cc0:(decide ((m:Int)<(5:Int)))=true)(cc1:((bC cur (bX n .out v u m))==(-1:Int))=false): ∃T1 M' S32,Rd Try.prog [] (q55.loopAt 2) Try.f55.ntmps (fr [(0,(pt bB 0)),(1,(.func (.func 56) ⟨[]⟩ ⟨[]⟩)),(2,(i64 (v:Int))),(7,S),(8,(i64 (u:Int))),(15,(aD G 0 n cg)),(16,(i64 (n:Int))),(17,(i64 (u:Int))),(23,(i64 (m:Int)))]) M .normal T1 M'/\ [0,1,2,7,8,15,16,17,23].map T1.get= [some (pt bB 0),some (.func (.func 56) ⟨[]⟩ ⟨[]⟩),some (i64 (v:Int)),some S32,some (i64 (u:Int)),some (aD G 0 n cg),some (i64 (n:Int)),some (i64 (u:Int)),some (i64 (IntKind.wrap .i64 ((m:Int)+(1:Int))))]/\Ext M0 M'/\aB M'/\cU 3 1 M0 [bB,C,K,G] (l.length+1) (l.map i64++ [i64 (bC cur (bX n .out v u m))]) S32 M':=by
 have gbB:=X0.old gbB0
 have gC:=X0.old gC0
 have gK:=X0.old gK0
 have gG:=X0.old gG0
 obtain⟨w1,N2,M3,p4,l5,e6,E7,d5,F9⟩:=aH (x:=((n,cur),v,u,m)) hM Ue (⟨⟨_,_,_,_,rfl,⟨C,K,_,_,rfl,gC,gK⟩,rfl,rfl,rfl⟩,hc60,hcl,hv,hu,(by have:=of_decide_eq_true cc0;show m<5;omega)⟩)
 have b9:=hA.ext E7
 have b4:=E7.old gbB
 have b5:=E7.old gC
 have b6:=E7.old gK
 have b7:=E7.old gG
 have d0:w1=i64 (bC cur (bX n .out v u m)):=F9
 subst d0
 have b0:=X0.trans E7
 obtain⟨a0,a5,a1,a7,b8,a2,a8⟩:=bG d5 ⟨[i64 (bC cur (bX n .out v u m))],3,1,0,true⟩
 have d8:M0.next<=a0:=by rw[<-a1];exact b0.next
 have a6:bB≠a0:=by have:=aA.lt_of_get b4;omega
 have b1:C≠a0:=by have:=aA.lt_of_get b5;omega
 have b3:K≠a0:=by have:=aA.lt_of_get b6;omega
 have b2:G≠a0:=by have:=aA.lt_of_get b7;omega
 have c6:=b9.new a1 a2
 have d1:=a2.old b4
 have d2:=a2.old b5
 have d3:=a2.old b6
 have d4:=a2.old b7
 have c8:=b0.trans a2
 obtain⟨a4,S32,a3,q34,c9,a9,c7,d7,d6⟩:=iE (P:=Try.prog) (sT:=22) (xT:=22) (y:=8) (c:=2) c6 c8 a8 (by intro x hx;simp only [List.mem_cons,List.not_mem_nil,or_false] at hx;rcases hx with rfl|rfl|rfl|rfl|rfl<;>first|exact aA.lt_of_get b8|exact aA.lt_of_get d1|exact aA.lt_of_get d2|exact aA.lt_of_get d3|exact aA.lt_of_get d4) (by kernel_rfl) (by kernel_rfl) (by kernel_rfl) (by kernel_rfl) (by decide) (by decide) rfl hl30 b8 (o:=0) (new:= [i64 (bC cur (bX n .out v u m))]) rfl rfl rfl
 have hraw:oR Try.prog [] 60 Try.f55 (q55.loopAt 2) [(0,(pt bB 0)),(1,(.func (.func 56) ⟨[]⟩ ⟨[]⟩)),(2,(i64 (v:Int))),(7,S),(8,(i64 (u:Int))),(15,(aD G 0 n cg)),(16,(i64 (n:Int))),(17,(i64 (u:Int))),(23,(i64 (m:Int)))] M [aM 2,aU 16 (pt C 0),bL 24 (i64 (bC cur (bX n .out v u m))) M3,aM 31,bL 37 (aD a0 0 1 2) a5,.at 39 ((bif a4 then 1 else 2),.val S32,a3)] [0,1,2,7,8,15,16,17,23]=some (.normal,[some (pt bB 0),some (.func (.func 56) ⟨[]⟩ ⟨[]⟩),some (i64 (v:Int)),some S32,some (i64 (u:Int)),some (aD G 0 n cg),some (i64 (n:Int)),some (i64 (u:Int)),some (i64 (IntKind.wrap .i64 ((m:Int)+(1:Int))))],a3,[qT (decide ((m:Int)<(5:Int))),qL 51 bB 6 M (pt C 0),qC 56 [pt C 0,i64 (v:Int),i64 (u:Int),i64 (m:Int)] M (i64 (bC cur (bX n .out v u m))) M3,qT (!((bC cur (bX n .out v u m))==(-1:Int))),.eq (bE Try.prog 22 1 [(0,(i64 (bC cur (bX n .out v u m))))] M3) (1,.val (aD a0 0 1 2),a5),.q (.append [22,22] S (aD a0 0 1 2) a5) ((bif a4 then 1 else 2),.val S32,a3)]):=by cases a4<;>kernel_rfl
 obtain⟨T1,h1,h2⟩:=Rd.told aJ aI (fun B=>lO (gF 56 Q56 (gQ _))) (fun _ _=>rfl) hraw (hk (bT cc0) (hk (lC Ni gbB rfl) (hk (aN rfl p4 l5 e6) (hk (bT (by rw[cc1];rfl)) (hk (bZ (by rw[<-a1,<-a7];kernel_rfl) Nat.one_ne_zero) (hk (jD q34 (by cases a4<;>simp)) hn))))))
 exact⟨T1,a3,S32,h1,h2,c9,a9,c7.less (by intro x hx;simp only [List.mem_cons,List.not_mem_nil,or_false] at hx⊢;omega)⟩
theorem riOx(bB G n cg v u m:Nat)(S:Value){M:aA}(cc0:(decide ((m:Int)<(5:Int)))=false): ∃T1,Rd Try.prog [] (q55.loopAt 2) Try.f55.ntmps (fr [(0,(pt bB 0)),(1,(.func (.func 56) ⟨[]⟩ ⟨[]⟩)),(2,(i64 (v:Int))),(7,S),(8,(i64 (u:Int))),(15,(aD G 0 n cg)),(16,(i64 (n:Int))),(17,(i64 (u:Int))),(23,(i64 (m:Int)))]) M (.exit 2) T1 M/\ [0,1,2,7,15,16,17].map T1.get= [some (pt bB 0),some (.func (.func 56) ⟨[]⟩ ⟨[]⟩),some (i64 (v:Int)),some S,some (aD G 0 n cg),some (i64 (n:Int)),some (i64 (u:Int))]:=by
 exact Rd.told (tb:=[]) (n:=60) (F:=[aO 2]) aJ aI (aG Try.prog) (fun _ _=>rfl) (by kernel_rfl) (hk (bF cc0) hn)
theorem Wi{bB C K G n ck cg:Nat}{c0 c1 c2 c3 c4 c5 cl:Value}{cur:List Int}{gone:List Bool}{v u:Nat}{S:Value}{l:List Int}{M0 M:aA}(hM:aB M)(X0:Ext M0 M)(gbB0:M0.get bB=some ⟨[c0,c1,c2,c3,c4,c5,pt C 0,aD G 0 n cg],53,8,0,true⟩)(gC0:M0.get C=some ⟨[i64 n,aD K 0 cur.length ck,cl],73,3,0,true⟩)(gK0:M0.get K=some ⟨cur.map i64,3,1,0,true⟩)(gG0:M0.get G=some ⟨gone.map Value.bool,4,1,0,true⟩)(hc60:n<=60)(hcl:cur.length=n*n*5)(hv:v<n)(hgl:gone.length=n)(hu:u<n)(hA:cU 3 1 M0 [bB,C,K,G] l.length (l.map i64) S M)(hl30:l.length<1000000):
  ∃S' M',bJ Try.prog [] (q55.loopAt 2) Try.f55.ntmps (fr [(0,pt bB 0),(1,(.func (.func 56) ⟨[]⟩ ⟨[]⟩)),(2,i64 v),(7,S),(8,i64 u),(15,aD G 0 n cg),(16,i64 n),(17,i64 u),(23,i64 ((0:Nat):Int))]) M (.exit 2) (fr [(0,pt bB 0),(1,(.func (.func 56) ⟨[]⟩ ⟨[]⟩)),(2,i64 v),(7,S'),(15,aD G 0 n cg),(16,i64 n),(17,i64 u)]) M'/\Ext M0 M'/\aB M'/\cU 3 1 M0 [bB,C,K,G] (l++hJ n cur .out v u 5).length ((l++hJ n cur .out v u 5).map i64) S' M':=by
 obtain⟨S',M',h1,h2,h3,h4⟩:=bJ.for (P:=Try.prog) (GL:= []) (b:=q55.loopAt 2) (nt:=Try.f55.ntmps) (id:=2) (σ:=Value) (n:=5) (Inv:=fun i S M1=>Ext M0 M1/\aB M1/\cU 3 1 M0 [bB,C,K,G] (l++hJ n cur .out v u i).length ((l++hJ n cur .out v u i).map i64) S M1)
  (F:=fun i S=> [(0,pt bB 0),(1,(.func (.func 56) ⟨[]⟩ ⟨[]⟩)),(2,i64 v),(7,S),(8,i64 u),(15,aD G 0 n cg),(16,i64 n),(17,i64 u),(23,i64 ((i:Nat):Int))])
  (O:=fun S=> [(0,pt bB 0),(1,(.func (.func 56) ⟨[]⟩ ⟨[]⟩)),(2,i64 v),(7,S),(15,aD G 0 n cg),(16,i64 n),(17,i64 u)])
  (by
   rintro i S M1 hi ⟨X1,a1,a0⟩
   have hln:=Cn n cur .out v u i
   have a2:(l++hJ n cur .out v u i).length<1073741824:=by rw[List.length_append];omega
   cases hq:(bC cur (bX n .out v u i))==(-1:Int) with
   |true=>
    obtain⟨T1,M2,h1,h2,h3,h4,h5⟩:=riOn bB C K G n ck cg c0 c1 c2 c3 c4 c5 cl cur gone v u i S (l++hJ n cur .out v u i) a1 X1 gbB0 gC0 gK0 gG0 hc60 hcl hv hgl hu a0 a2 (decide_eq_true (by omega)) hq
    rw[aY (by omega)] at h2
    refine⟨S,T1,M2,h1,h2,h3,h4,?_⟩
    rw[show hJ n cur .out v u (i+1)=hJ n cur .out v u i by rw[hJ,hq];simp]
    exact h5
   |false=>
    obtain⟨T1,M2,S2,h1,h2,h3,h4,h5⟩:=riOa bB C K G n ck cg c0 c1 c2 c3 c4 c5 cl cur gone v u i S (l++hJ n cur .out v u i) a1 X1 gbB0 gC0 gK0 gG0 hc60 hcl hv hgl hu a0 a2 (decide_eq_true (by omega)) hq
    rw[aY (by omega)] at h2
    refine⟨S2,T1,M2,h1,h2,h3,h4,?_⟩
    rw[show l++hJ n cur .out v u (i+1)=(l++hJ n cur .out v u i)++ [bC cur (bX n .out v u i)] by rw[hJ,hq];simp,List.length_append (bs:= [_]),List.map_append]
    exact h5)
  (by
   rintro S M1 ⟨X1,a1,a0⟩
   exact riOx bB G n cg v u 5 S (M:=M1) (decide_eq_false (by omega)))
  5 0 (by omega) (s:=S) (M:=M) ⟨X0,hM,by simpa [hJ] using hA⟩
 exact⟨S',M',h1,h2,h3,h4⟩
theorem roOg(bB C K G n ck cg:Nat)(c0 c1 c2 c3 c4 c5 cl:Value)(cur:List Int)(gone:List Bool)(v u:Nat)(S:Value)(l:List Int)(gq:Bool){M:aA}{M0:aA}(X0:Ext M0 M)(gbB0:M0.get bB=some ⟨[c0,c1,c2,c3,c4,c5,pt C 0,aD G 0 n cg],53,8,0,true⟩)(gC0:M0.get C=some ⟨[i64 n,aD K 0 cur.length ck,cl],73,3,0,true⟩)(gK0:M0.get K=some ⟨cur.map i64,3,1,0,true⟩)(gG0:M0.get G=some ⟨gone.map Value.bool,4,1,0,true⟩)(hc60:n<=60)(hcl:cur.length=n*n*5)(hv:v<n)(hgl:gone.length=n)(hA:cU 3 1 M0 [bB,C,K,G] l.length (l.map i64) S M)(hl30:l.length<1000000)(cc0:(decide ((u:Int)<(n:Int)))=true)(cc1:(gq)=true)(hc0:(gone.map Value.bool)[0+((u:Int):Int).toNat*1]?=some (.bool gq)): ∃T1,Rd Try.prog [] (q55.loopAt 0) Try.f55.ntmps (fr [(0,(pt bB 0)),(1,(.func (.func 56) ⟨[]⟩ ⟨[]⟩)),(2,(i64 (v:Int))),(7,S),(15,(aD G 0 n cg)),(16,(i64 (n:Int))),(17,(i64 (u:Int)))]) M .normal T1 M/\ [0,1,2,7,15,16,17].map T1.get= [some (pt bB 0),some (.func (.func 56) ⟨[]⟩ ⟨[]⟩),some (i64 (v:Int)),some S,some (aD G 0 n cg),some (i64 (n:Int)),some (i64 (IntKind.wrap .i64 ((u:Int)+(1:Int))))]:=by
 have gG:=X0.old gG0
 exact Rd.told (tb:=[]) (n:=60) (F:=[aM 2,aM 6,aU 8 (.bool gq),aM 15]) aJ aI (aG Try.prog) (fun _ _=>rfl) (by kernel_rfl) (hk (bT cc0) (hk (qI (u:Int) n (by omega) (by simp at cc0;omega)) (hq (qL 4 G (0+((u:Int):Int).toNat*1) M (.bool gq)) (iP (bW (a:=⟨G,0+((u:Int):Int).toNat*1,none⟩) Vd gG hc0)) (hk (bT cc1) hn))))
theorem roOs(bB C K G n ck cg:Nat)(c0 c1 c2 c3 c4 c5 cl:Value)(cur:List Int)(gone:List Bool)(v u:Nat)(S:Value)(l:List Int)(gq:Bool){M M0:aA}(hM:aB M)(X0:Ext M0 M)(gbB0:M0.get bB=some ⟨[c0,c1,c2,c3,c4,c5,pt C 0,aD G 0 n cg],53,8,0,true⟩)(gC0:M0.get C=some ⟨[i64 n,aD K 0 cur.length ck,cl],73,3,0,true⟩)(gK0:M0.get K=some ⟨cur.map i64,3,1,0,true⟩)(gG0:M0.get G=some ⟨gone.map Value.bool,4,1,0,true⟩)(hc60:n<=60)(hcl:cur.length=n*n*5)(hv:v<n)(hgl:gone.length=n)(hA:cU 3 1 M0 [bB,C,K,G] l.length (l.map i64) S M)(hl30:l.length<1000000)(cc0:(decide ((u:Int)<(n:Int)))=true)(cc1:(gq)=false)(hc0:(gone.map Value.bool)[0+((u:Int):Int).toNat*1]?=some (.bool gq)): ∃T1 M' S1,Rd Try.prog [] (q55.loopAt 0) Try.f55.ntmps (fr [(0,(pt bB 0)),(1,(.func (.func 56) ⟨[]⟩ ⟨[]⟩)),(2,(i64 (v:Int))),(7,S),(15,(aD G 0 n cg)),(16,(i64 (n:Int))),(17,(i64 (u:Int)))]) M .normal T1 M'/\ [0,1,2,7,15,16,17].map T1.get= [some (pt bB 0),some (.func (.func 56) ⟨[]⟩ ⟨[]⟩),some (i64 (v:Int)),some S1,some (aD G 0 n cg),some (i64 (n:Int)),some (i64 (IntKind.wrap .i64 ((u:Int)+(1:Int))))]/\Ext M0 M'/\aB M'/\cU 3 1 M0 [bB,C,K,G] (l++hJ n cur .out v u 5).length ((l++hJ n cur .out v u 5).map i64) S1 M':=by
 have gG:=X0.old gG0
 obtain⟨S1,M2,a0,X4,a1,A6⟩:=Wi hM X0 gbB0 gC0 gK0 gG0 hc60 hcl hv hgl (u:=u) (by simp at cc0;omega) hA hl30
 obtain⟨T1,h1,h2⟩:=Rd.told (tb:=[2]) (n:=60) (F:=[aM 2,aM 6,aU 8 (.bool gq),aO 15,.blk 18 [0,1,2,7,8,15,16,17,23] .normal (fr [(0,(pt bB 0)),(1,(.func (.func 56) ⟨[]⟩ ⟨[]⟩)),(2,(i64 (v:Int))),(7,S1),(15,(aD G 0 n cg)),(16,(i64 (n:Int))),(17,(i64 (u:Int)))]) M2]) aJ aI (fun B=>zN (gQ B) 2 a0) (fun _ h=>cF h) (by kernel_rfl) (hk (bT cc0) (hk (qI (u:Int) n (by omega) (by simp at cc0;omega)) (hq (qL 4 G (0+((u:Int):Int).toNat*1) M (.bool gq)) (iP (bW (a:=⟨G,0+((u:Int):Int).toNat*1,none⟩) Vd gG hc0)) (hk (bF cc1) (hq (.blk 2 (.loop (q55.loopAt 2)) Try.f55.ntmps [0,1,2,7,8,15,16,17,23] [some (pt bB 0),some (.func (.func 56) ⟨[]⟩ ⟨[]⟩),some (i64 (v:Int)),some S,some (i64 (u:Int)),some (aD G 0 n cg),some (i64 (n:Int)),some (i64 (u:Int)),some (i64 0)] M .normal (fr [(0,(pt bB 0)),(1,(.func (.func 56) ⟨[]⟩ ⟨[]⟩)),(2,(i64 (v:Int))),(7,S1),(15,(aD G 0 n cg)),(16,(i64 (n:Int))),(17,(i64 (u:Int)))]) M2) (fH rfl) hn)))))
 exact⟨T1,M2,S1,h1,h2,X4,a1,A6⟩
theorem roOx(bB C K G n ck cg:Nat)(c0 c1 c2 c3 c4 c5 cl:Value)(cur:List Int)(gone:List Bool)(v u:Nat)(S:Value){M:aA}{M0:aA}(X0:Ext M0 M)(gbB0:M0.get bB=some ⟨[c0,c1,c2,c3,c4,c5,pt C 0,aD G 0 n cg],53,8,0,true⟩)(gC0:M0.get C=some ⟨[i64 n,aD K 0 cur.length ck,cl],73,3,0,true⟩)(gK0:M0.get K=some ⟨cur.map i64,3,1,0,true⟩)(gG0:M0.get G=some ⟨gone.map Value.bool,4,1,0,true⟩)(cc0:(decide ((u:Int)<(n:Int)))=false): ∃T1,Rd Try.prog [] (q55.loopAt 0) Try.f55.ntmps (fr [(0,(pt bB 0)),(1,(.func (.func 56) ⟨[]⟩ ⟨[]⟩)),(2,(i64 (v:Int))),(7,S),(15,(aD G 0 n cg)),(16,(i64 (n:Int))),(17,(i64 (u:Int)))]) M (.exit 0) T1 M/\ [7].map T1.get= [some S]:=by
 exact Rd.told (tb:=[]) (n:=60) (F:=[aO 2]) aJ aI (aG Try.prog) (fun _ _=>rfl) (by kernel_rfl) (hk (bF cc0) hn)
theorem riIn(bB C K G n ck cg:Nat)(c0 c1 c2 c3 c4 c5 cl:Value)(cur:List Int)(gone:List Bool)(v u m:Nat)(S:Value)(l:List Int){M M0:aA}(hM:aB M)(X0:Ext M0 M)(gbB0:M0.get bB=some ⟨[c0,c1,c2,c3,c4,c5,pt C 0,aD G 0 n cg],53,8,0,true⟩)(gC0:M0.get C=some ⟨[i64 n,aD K 0 cur.length ck,cl],73,3,0,true⟩)(gK0:M0.get K=some ⟨cur.map i64,3,1,0,true⟩)(gG0:M0.get G=some ⟨gone.map Value.bool,4,1,0,true⟩)(hc60:n<=60)(hcl:cur.length=n*n*5)(hv:v<n)(hgl:gone.length=n)(hu:u<n)(hA:cU 3 1 M0 [bB,C,K,G] l.length (l.map i64) S M)(hl30:l.length<1073741824)(cc0:(decide ((m:Int)<(5:Int)))=true)(cc1:((bC cur (bX n .inn v u m))==(-1:Int))=true): ∃T1 M',Rd Try.prog [] (q55.loopAt 2) Try.f55.ntmps (fr [(0,(pt bB 0)),(1,(.func (.func 57) ⟨[]⟩ ⟨[]⟩)),(2,(i64 (v:Int))),(7,S),(8,(i64 (u:Int))),(15,(aD G 0 n cg)),(16,(i64 (n:Int))),(17,(i64 (u:Int))),(23,(i64 (m:Int)))]) M .normal T1 M'/\ [0,1,2,7,8,15,16,17,23].map T1.get= [some (pt bB 0),some (.func (.func 57) ⟨[]⟩ ⟨[]⟩),some (i64 (v:Int)),some S,some (i64 (u:Int)),some (aD G 0 n cg),some (i64 (n:Int)),some (i64 (u:Int)),some (i64 (IntKind.wrap .i64 ((m:Int)+(1:Int))))]/\Ext M0 M'/\aB M'/\cU 3 1 M0 [bB,C,K,G] l.length (l.map i64) S M':=by
 have gbB:=X0.old gbB0
 have gC:=X0.old gC0
 have gK:=X0.old gK0
 obtain⟨w1,N2,M3,p4,l5,e6,E7,a3,F9⟩:=aH (x:=((n,cur),v,u,m)) hM Uf (⟨⟨_,_,_,_,rfl,⟨C,K,_,_,rfl,gC,gK⟩,rfl,rfl,rfl⟩,hc60,hcl,hv,hu,(by have:=of_decide_eq_true cc0;show m<5;omega)⟩)
 have a0:=hA.ext E7
 have a2:w1=i64 (bC cur (bX n .inn v u m)):=F9
 subst a2
 have a1:=X0.trans E7
 obtain⟨T1,h1,h2⟩:=Rd.told (tb:=[]) (n:=60) (F:=[aM 2,aU 16 (pt C 0),bL 24 (i64 (bC cur (bX n .inn v u m))) M3,aO 31]) aJ aI (fun B=>lO (gF 57 Q57 (gQ _))) (fun _ _=>rfl) (by kernel_rfl) (hk (bT cc0) (hk (lC (o:=6) Ni gbB rfl) (hq (qC 57 [pt C 0,i64 (v:Int),i64 (u:Int),i64 (m:Int)] M (i64 (bC cur (bX n .inn v u m))) M3) (aN rfl p4 l5 e6) (hk (bF (x:=!((bC cur (bX n .inn v u m))==(-1:Int))) (by rw[cc1];rfl)) hn))))
 exact⟨T1,M3,h1,h2,a1,a3,a0⟩
theorem riIa(bB C K G n ck cg:Nat)(c0 c1 c2 c3 c4 c5 cl:Value)(cur:List Int)(gone:List Bool)(v u m:Nat)(S:Value)(l:List Int){M M0:aA}(hM:aB M)(X0:Ext M0 M)(gbB0:M0.get bB=some ⟨[c0,c1,c2,c3,c4,c5,pt C 0,aD G 0 n cg],53,8,0,true⟩)(gC0:M0.get C=some ⟨[i64 n,aD K 0 cur.length ck,cl],73,3,0,true⟩)(gK0:M0.get K=some ⟨cur.map i64,3,1,0,true⟩)(gG0:M0.get G=some ⟨gone.map Value.bool,4,1,0,true⟩)(hc60:n<=60)(hcl:cur.length=n*n*5)(hv:v<n)(hgl:gone.length=n)(hu:u<n)(hA:cU 3 1 M0 [bB,C,K,G] l.length (l.map i64) S M)(hl30:l.length<1073741824)(cc0:(decide ((m:Int)<(5:Int)))=true)(cc1:((bC cur (bX n .inn v u m))==(-1:Int))=false): ∃T1 M' S32,Rd Try.prog [] (q55.loopAt 2) Try.f55.ntmps (fr [(0,(pt bB 0)),(1,(.func (.func 57) ⟨[]⟩ ⟨[]⟩)),(2,(i64 (v:Int))),(7,S),(8,(i64 (u:Int))),(15,(aD G 0 n cg)),(16,(i64 (n:Int))),(17,(i64 (u:Int))),(23,(i64 (m:Int)))]) M .normal T1 M'/\ [0,1,2,7,8,15,16,17,23].map T1.get= [some (pt bB 0),some (.func (.func 57) ⟨[]⟩ ⟨[]⟩),some (i64 (v:Int)),some S32,some (i64 (u:Int)),some (aD G 0 n cg),some (i64 (n:Int)),some (i64 (u:Int)),some (i64 (IntKind.wrap .i64 ((m:Int)+(1:Int))))]/\Ext M0 M'/\aB M'/\cU 3 1 M0 [bB,C,K,G] (l.length+1) (l.map i64++ [i64 (bC cur (bX n .inn v u m))]) S32 M':=by
 have gbB:=X0.old gbB0
 have gC:=X0.old gC0
 have gK:=X0.old gK0
 have gG:=X0.old gG0
 obtain⟨w1,N2,M3,p4,l5,e6,E7,d5,F9⟩:=aH (x:=((n,cur),v,u,m)) hM Uf (⟨⟨_,_,_,_,rfl,⟨C,K,_,_,rfl,gC,gK⟩,rfl,rfl,rfl⟩,hc60,hcl,hv,hu,(by have:=of_decide_eq_true cc0;show m<5;omega)⟩)
 have b9:=hA.ext E7
 have b4:=E7.old gbB
 have b5:=E7.old gC
 have b6:=E7.old gK
 have b7:=E7.old gG
 have d0:w1=i64 (bC cur (bX n .inn v u m)):=F9
 subst d0
 have b0:=X0.trans E7
 obtain⟨a0,a5,a1,a7,b8,a2,a8⟩:=bG d5 ⟨[i64 (bC cur (bX n .inn v u m))],3,1,0,true⟩
 have d8:M0.next<=a0:=by rw[<-a1];exact b0.next
 have a6:bB≠a0:=by have:=aA.lt_of_get b4;omega
 have b1:C≠a0:=by have:=aA.lt_of_get b5;omega
 have b3:K≠a0:=by have:=aA.lt_of_get b6;omega
 have b2:G≠a0:=by have:=aA.lt_of_get b7;omega
 have c6:=b9.new a1 a2
 have d1:=a2.old b4
 have d2:=a2.old b5
 have d3:=a2.old b6
 have d4:=a2.old b7
 have c8:=b0.trans a2
 obtain⟨a4,S32,a3,q34,c9,a9,c7,d7,d6⟩:=iE (P:=Try.prog) (sT:=22) (xT:=22) (y:=8) (c:=2) c6 c8 a8 (by intro x hx;simp only [List.mem_cons,List.not_mem_nil,or_false] at hx;rcases hx with rfl|rfl|rfl|rfl|rfl<;>first|exact aA.lt_of_get b8|exact aA.lt_of_get d1|exact aA.lt_of_get d2|exact aA.lt_of_get d3|exact aA.lt_of_get d4) (by kernel_rfl) (by kernel_rfl) (by kernel_rfl) (by kernel_rfl) (by decide) (by decide) rfl hl30 b8 (o:=0) (new:= [i64 (bC cur (bX n .inn v u m))]) rfl rfl rfl
 have hraw:oR Try.prog [] 60 Try.f55 (q55.loopAt 2) [(0,(pt bB 0)),(1,(.func (.func 57) ⟨[]⟩ ⟨[]⟩)),(2,(i64 (v:Int))),(7,S),(8,(i64 (u:Int))),(15,(aD G 0 n cg)),(16,(i64 (n:Int))),(17,(i64 (u:Int))),(23,(i64 (m:Int)))] M [aM 2,aU 16 (pt C 0),bL 24 (i64 (bC cur (bX n .inn v u m))) M3,aM 31,bL 37 (aD a0 0 1 2) a5,.at 39 ((bif a4 then 1 else 2),.val S32,a3)] [0,1,2,7,8,15,16,17,23]=some (.normal,[some (pt bB 0),some (.func (.func 57) ⟨[]⟩ ⟨[]⟩),some (i64 (v:Int)),some S32,some (i64 (u:Int)),some (aD G 0 n cg),some (i64 (n:Int)),some (i64 (u:Int)),some (i64 (IntKind.wrap .i64 ((m:Int)+(1:Int))))],a3,[qT (decide ((m:Int)<(5:Int))),qL 51 bB 6 M (pt C 0),qC 57 [pt C 0,i64 (v:Int),i64 (u:Int),i64 (m:Int)] M (i64 (bC cur (bX n .inn v u m))) M3,qT (!((bC cur (bX n .inn v u m))==(-1:Int))),.eq (bE Try.prog 22 1 [(0,(i64 (bC cur (bX n .inn v u m))))] M3) (1,.val (aD a0 0 1 2),a5),.q (.append [22,22] S (aD a0 0 1 2) a5) ((bif a4 then 1 else 2),.val S32,a3)]):=by cases a4<;>kernel_rfl
 obtain⟨T1,h1,h2⟩:=Rd.told aJ aI (fun B=>lO (gF 57 Q57 (gQ _))) (fun _ _=>rfl) hraw (hk (bT cc0) (hk (lC Ni gbB rfl) (hk (aN rfl p4 l5 e6) (hk (bT (by rw[cc1];rfl)) (hk (bZ (by rw[<-a1,<-a7];kernel_rfl) Nat.one_ne_zero) (hk (jD q34 (by cases a4<;>simp)) hn))))))
 exact⟨T1,a3,S32,h1,h2,c9,a9,c7.less (by intro x hx;simp only [List.mem_cons,List.not_mem_nil,or_false] at hx⊢;omega)⟩
theorem riIx(bB G n cg v u m:Nat)(S:Value){M:aA}(cc0:(decide ((m:Int)<(5:Int)))=false): ∃T1,Rd Try.prog [] (q55.loopAt 2) Try.f55.ntmps (fr [(0,(pt bB 0)),(1,(.func (.func 57) ⟨[]⟩ ⟨[]⟩)),(2,(i64 (v:Int))),(7,S),(8,(i64 (u:Int))),(15,(aD G 0 n cg)),(16,(i64 (n:Int))),(17,(i64 (u:Int))),(23,(i64 (m:Int)))]) M (.exit 2) T1 M/\ [0,1,2,7,15,16,17].map T1.get= [some (pt bB 0),some (.func (.func 57) ⟨[]⟩ ⟨[]⟩),some (i64 (v:Int)),some S,some (aD G 0 n cg),some (i64 (n:Int)),some (i64 (u:Int))]:=by
 exact Rd.told (tb:=[]) (n:=60) (F:=[aO 2]) aJ aI (aG Try.prog) (fun _ _=>rfl) (by kernel_rfl) (hk (bF cc0) hn)
theorem Wh{bB C K G n ck cg:Nat}{c0 c1 c2 c3 c4 c5 cl:Value}{cur:List Int}{gone:List Bool}{v u:Nat}{S:Value}{l:List Int}{M0 M:aA}(hM:aB M)(X0:Ext M0 M)(gbB0:M0.get bB=some ⟨[c0,c1,c2,c3,c4,c5,pt C 0,aD G 0 n cg],53,8,0,true⟩)(gC0:M0.get C=some ⟨[i64 n,aD K 0 cur.length ck,cl],73,3,0,true⟩)(gK0:M0.get K=some ⟨cur.map i64,3,1,0,true⟩)(gG0:M0.get G=some ⟨gone.map Value.bool,4,1,0,true⟩)(hc60:n<=60)(hcl:cur.length=n*n*5)(hv:v<n)(hgl:gone.length=n)(hu:u<n)(hA:cU 3 1 M0 [bB,C,K,G] l.length (l.map i64) S M)(hl30:l.length<1000000):
  ∃S' M',bJ Try.prog [] (q55.loopAt 2) Try.f55.ntmps (fr [(0,pt bB 0),(1,(.func (.func 57) ⟨[]⟩ ⟨[]⟩)),(2,i64 v),(7,S),(8,i64 u),(15,aD G 0 n cg),(16,i64 n),(17,i64 u),(23,i64 ((0:Nat):Int))]) M (.exit 2) (fr [(0,pt bB 0),(1,(.func (.func 57) ⟨[]⟩ ⟨[]⟩)),(2,i64 v),(7,S'),(15,aD G 0 n cg),(16,i64 n),(17,i64 u)]) M'/\Ext M0 M'/\aB M'/\cU 3 1 M0 [bB,C,K,G] (l++hJ n cur .inn v u 5).length ((l++hJ n cur .inn v u 5).map i64) S' M':=by
 obtain⟨S',M',h1,h2,h3,h4⟩:=bJ.for (P:=Try.prog) (GL:= []) (b:=q55.loopAt 2) (nt:=Try.f55.ntmps) (id:=2) (σ:=Value) (n:=5) (Inv:=fun i S M1=>Ext M0 M1/\aB M1/\cU 3 1 M0 [bB,C,K,G] (l++hJ n cur .inn v u i).length ((l++hJ n cur .inn v u i).map i64) S M1)
  (F:=fun i S=> [(0,pt bB 0),(1,(.func (.func 57) ⟨[]⟩ ⟨[]⟩)),(2,i64 v),(7,S),(8,i64 u),(15,aD G 0 n cg),(16,i64 n),(17,i64 u),(23,i64 ((i:Nat):Int))])
  (O:=fun S=> [(0,pt bB 0),(1,(.func (.func 57) ⟨[]⟩ ⟨[]⟩)),(2,i64 v),(7,S),(15,aD G 0 n cg),(16,i64 n),(17,i64 u)])
  (by
   rintro i S M1 hi ⟨X1,a1,a0⟩
   have hln:=Cn n cur .inn v u i
   have a2:(l++hJ n cur .inn v u i).length<1073741824:=by rw[List.length_append];omega
   cases hq:(bC cur (bX n .inn v u i))==(-1:Int) with
   |true=>
    obtain⟨T1,M2,h1,h2,h3,h4,h5⟩:=riIn bB C K G n ck cg c0 c1 c2 c3 c4 c5 cl cur gone v u i S (l++hJ n cur .inn v u i) a1 X1 gbB0 gC0 gK0 gG0 hc60 hcl hv hgl hu a0 a2 (decide_eq_true (by omega)) hq
    rw[aY (by omega)] at h2
    refine⟨S,T1,M2,h1,h2,h3,h4,?_⟩
    rw[show hJ n cur .inn v u (i+1)=hJ n cur .inn v u i by rw[hJ,hq];simp]
    exact h5
   |false=>
    obtain⟨T1,M2,S2,h1,h2,h3,h4,h5⟩:=riIa bB C K G n ck cg c0 c1 c2 c3 c4 c5 cl cur gone v u i S (l++hJ n cur .inn v u i) a1 X1 gbB0 gC0 gK0 gG0 hc60 hcl hv hgl hu a0 a2 (decide_eq_true (by omega)) hq
    rw[aY (by omega)] at h2
    refine⟨S2,T1,M2,h1,h2,h3,h4,?_⟩
    rw[show l++hJ n cur .inn v u (i+1)=(l++hJ n cur .inn v u i)++ [bC cur (bX n .inn v u i)] by rw[hJ,hq];simp,List.length_append (bs:= [_]),List.map_append]
    exact h5)
  (by
   rintro S M1 ⟨X1,a1,a0⟩
   exact riIx bB G n cg v u 5 S (M:=M1) (decide_eq_false (by omega)))
  5 0 (by omega) (s:=S) (M:=M) ⟨X0,hM,by simpa [hJ] using hA⟩
 exact⟨S',M',h1,h2,h3,h4⟩
theorem roIg(bB C K G n ck cg:Nat)(c0 c1 c2 c3 c4 c5 cl:Value)(cur:List Int)(gone:List Bool)(v u:Nat)(S:Value)(l:List Int)(gq:Bool){M:aA}{M0:aA}(X0:Ext M0 M)(gbB0:M0.get bB=some ⟨[c0,c1,c2,c3,c4,c5,pt C 0,aD G 0 n cg],53,8,0,true⟩)(gC0:M0.get C=some ⟨[i64 n,aD K 0 cur.length ck,cl],73,3,0,true⟩)(gK0:M0.get K=some ⟨cur.map i64,3,1,0,true⟩)(gG0:M0.get G=some ⟨gone.map Value.bool,4,1,0,true⟩)(hc60:n<=60)(hcl:cur.length=n*n*5)(hv:v<n)(hgl:gone.length=n)(hA:cU 3 1 M0 [bB,C,K,G] l.length (l.map i64) S M)(hl30:l.length<1000000)(cc0:(decide ((u:Int)<(n:Int)))=true)(cc1:(gq)=true)(hc0:(gone.map Value.bool)[0+((u:Int):Int).toNat*1]?=some (.bool gq)): ∃T1,Rd Try.prog [] (q55.loopAt 0) Try.f55.ntmps (fr [(0,(pt bB 0)),(1,(.func (.func 57) ⟨[]⟩ ⟨[]⟩)),(2,(i64 (v:Int))),(7,S),(15,(aD G 0 n cg)),(16,(i64 (n:Int))),(17,(i64 (u:Int)))]) M .normal T1 M/\ [0,1,2,7,15,16,17].map T1.get= [some (pt bB 0),some (.func (.func 57) ⟨[]⟩ ⟨[]⟩),some (i64 (v:Int)),some S,some (aD G 0 n cg),some (i64 (n:Int)),some (i64 (IntKind.wrap .i64 ((u:Int)+(1:Int))))]:=by
 have gG:=X0.old gG0
 exact Rd.told (tb:=[]) (n:=60) (F:=[aM 2,aM 6,aU 8 (.bool gq),aM 15]) aJ aI (aG Try.prog) (fun _ _=>rfl) (by kernel_rfl) (hk (bT cc0) (hk (qI (u:Int) n (by omega) (by simp at cc0;omega)) (hq (qL 4 G (0+((u:Int):Int).toNat*1) M (.bool gq)) (iP (bW (a:=⟨G,0+((u:Int):Int).toNat*1,none⟩) Vd gG hc0)) (hk (bT cc1) hn))))
theorem roIs(bB C K G n ck cg:Nat)(c0 c1 c2 c3 c4 c5 cl:Value)(cur:List Int)(gone:List Bool)(v u:Nat)(S:Value)(l:List Int)(gq:Bool){M M0:aA}(hM:aB M)(X0:Ext M0 M)(gbB0:M0.get bB=some ⟨[c0,c1,c2,c3,c4,c5,pt C 0,aD G 0 n cg],53,8,0,true⟩)(gC0:M0.get C=some ⟨[i64 n,aD K 0 cur.length ck,cl],73,3,0,true⟩)(gK0:M0.get K=some ⟨cur.map i64,3,1,0,true⟩)(gG0:M0.get G=some ⟨gone.map Value.bool,4,1,0,true⟩)(hc60:n<=60)(hcl:cur.length=n*n*5)(hv:v<n)(hgl:gone.length=n)(hA:cU 3 1 M0 [bB,C,K,G] l.length (l.map i64) S M)(hl30:l.length<1000000)(cc0:(decide ((u:Int)<(n:Int)))=true)(cc1:(gq)=false)(hc0:(gone.map Value.bool)[0+((u:Int):Int).toNat*1]?=some (.bool gq)): ∃T1 M' S1,Rd Try.prog [] (q55.loopAt 0) Try.f55.ntmps (fr [(0,(pt bB 0)),(1,(.func (.func 57) ⟨[]⟩ ⟨[]⟩)),(2,(i64 (v:Int))),(7,S),(15,(aD G 0 n cg)),(16,(i64 (n:Int))),(17,(i64 (u:Int)))]) M .normal T1 M'/\ [0,1,2,7,15,16,17].map T1.get= [some (pt bB 0),some (.func (.func 57) ⟨[]⟩ ⟨[]⟩),some (i64 (v:Int)),some S1,some (aD G 0 n cg),some (i64 (n:Int)),some (i64 (IntKind.wrap .i64 ((u:Int)+(1:Int))))]/\Ext M0 M'/\aB M'/\cU 3 1 M0 [bB,C,K,G] (l++hJ n cur .inn v u 5).length ((l++hJ n cur .inn v u 5).map i64) S1 M':=by
 have gG:=X0.old gG0
 obtain⟨S1,M2,a0,X4,a1,A6⟩:=Wh hM X0 gbB0 gC0 gK0 gG0 hc60 hcl hv hgl (u:=u) (by simp at cc0;omega) hA hl30
 obtain⟨T1,h1,h2⟩:=Rd.told (tb:=[2]) (n:=60) (F:=[aM 2,aM 6,aU 8 (.bool gq),aO 15,.blk 18 [0,1,2,7,8,15,16,17,23] .normal (fr [(0,(pt bB 0)),(1,(.func (.func 57) ⟨[]⟩ ⟨[]⟩)),(2,(i64 (v:Int))),(7,S1),(15,(aD G 0 n cg)),(16,(i64 (n:Int))),(17,(i64 (u:Int)))]) M2]) aJ aI (fun B=>zN (gQ B) 2 a0) (fun _ h=>cF h) (by kernel_rfl) (hk (bT cc0) (hk (qI (u:Int) n (by omega) (by simp at cc0;omega)) (hq (qL 4 G (0+((u:Int):Int).toNat*1) M (.bool gq)) (iP (bW (a:=⟨G,0+((u:Int):Int).toNat*1,none⟩) Vd gG hc0)) (hk (bF cc1) (hq (.blk 2 (.loop (q55.loopAt 2)) Try.f55.ntmps [0,1,2,7,8,15,16,17,23] [some (pt bB 0),some (.func (.func 57) ⟨[]⟩ ⟨[]⟩),some (i64 (v:Int)),some S,some (i64 (u:Int)),some (aD G 0 n cg),some (i64 (n:Int)),some (i64 (u:Int)),some (i64 0)] M .normal (fr [(0,(pt bB 0)),(1,(.func (.func 57) ⟨[]⟩ ⟨[]⟩)),(2,(i64 (v:Int))),(7,S1),(15,(aD G 0 n cg)),(16,(i64 (n:Int))),(17,(i64 (u:Int)))]) M2) (fH rfl) hn)))))
 exact⟨T1,M2,S1,h1,h2,X4,a1,A6⟩
theorem roIx(bB C K G n ck cg:Nat)(c0 c1 c2 c3 c4 c5 cl:Value)(cur:List Int)(gone:List Bool)(v u:Nat)(S:Value){M:aA}{M0:aA}(X0:Ext M0 M)(gbB0:M0.get bB=some ⟨[c0,c1,c2,c3,c4,c5,pt C 0,aD G 0 n cg],53,8,0,true⟩)(gC0:M0.get C=some ⟨[i64 n,aD K 0 cur.length ck,cl],73,3,0,true⟩)(gK0:M0.get K=some ⟨cur.map i64,3,1,0,true⟩)(gG0:M0.get G=some ⟨gone.map Value.bool,4,1,0,true⟩)(cc0:(decide ((u:Int)<(n:Int)))=false): ∃T1,Rd Try.prog [] (q55.loopAt 0) Try.f55.ntmps (fr [(0,(pt bB 0)),(1,(.func (.func 57) ⟨[]⟩ ⟨[]⟩)),(2,(i64 (v:Int))),(7,S),(15,(aD G 0 n cg)),(16,(i64 (n:Int))),(17,(i64 (u:Int)))]) M (.exit 0) T1 M/\ [7].map T1.get= [some S]:=by
 exact Rd.told (tb:=[]) (n:=60) (F:=[aO 2]) aJ aI (aG Try.prog) (fun _ _=>rfl) (by kernel_rfl) (hk (bF cc0) hn)
theorem Se:(Try.prog.underlying 35).map dX=some false:=by kernel_rfl
theorem Hj{M M':aA}{bad:List Nat}{l:List Int}{S:Value}(h:cU 3 1 M bad l.length (l.map i64) S M')(hl:l.length<=9223372036854775807):aP l S (hid M.next M'):=by
 rcases h with⟨rfl,h0,_⟩|⟨b,rfl,_,_,h3,h5,h6⟩
 ·rw[List.eq_nil_of_length_eq_zero h0];exact aK.nil none
 ·exact aK.of_blk' (iZ h3 h6) rfl (vX l).symm (fun _ _=>rfl) hl
theorem Wk{bB C K G n ck cg:Nat}{c0 c1 c2 c3 c4 c5 cl:Value}{cur:List Int}{gone:List Bool}{v:Nat}{M0 M:aA}(hM:aB M)(X0:Ext M0 M)(gbB0:M0.get bB=some ⟨[c0,c1,c2,c3,c4,c5,pt C 0,aD G 0 n cg],53,8,0,true⟩)(gC0:M0.get C=some ⟨[i64 n,aD K 0 cur.length ck,cl],73,3,0,true⟩)(gK0:M0.get K=some ⟨cur.map i64,3,1,0,true⟩)(gG0:M0.get G=some ⟨gone.map Value.bool,4,1,0,true⟩)(hc60:n<=60)(hcl:cur.length=n*n*5)(hv:v<n)(hgl:gone.length=n):
  ∃S' M',bJ Try.prog [] (q55.loopAt 0) Try.f55.ntmps (fr [(0,pt bB 0),(1,(.func (.func 56) ⟨[]⟩ ⟨[]⟩)),(2,i64 v),(7,cI),(15,aD G 0 n cg),(16,i64 n),(17,i64 ((0:Nat):Int))]) M (.exit 0) (fr [(7,S')]) M'/\Ext M0 M'/\aB M'/\cU 3 1 M0 [bB,C,K,G] (fQ n cur gone .out v n).length ((fQ n cur gone .out v n).map i64) S' M':=by
 obtain⟨S',M',h1,h2,h3,h4⟩:=bJ.for (P:=Try.prog) (GL:= []) (b:=q55.loopAt 0) (nt:=Try.f55.ntmps) (id:=0) (σ:=Value) (n:=n) (Inv:=fun i S M1=>Ext M0 M1/\aB M1/\cU 3 1 M0 [bB,C,K,G] (fQ n cur gone .out v i).length ((fQ n cur gone .out v i).map i64) S M1)
  (F:=fun i S=> [(0,pt bB 0),(1,(.func (.func 56) ⟨[]⟩ ⟨[]⟩)),(2,i64 v),(7,S),(15,aD G 0 n cg),(16,i64 n),(17,i64 ((i:Nat):Int))])
  (O:=fun S=> [(7,S)])
  (by
   rintro i S M1 hi ⟨X1,a1,a0⟩
   have hln:=kW n cur gone .out v i
   have hgi:gone[i]?=some (dI gone i):=by unfold dI;rw[List.getElem?_eq_getElem (by omega)];rfl
   have hgc:(gone.map Value.bool)[0+((i:Int):Int).toNat*1]?=some (.bool (dI gone i)):=by simp [hgi]
   cases hq:dI gone i with
   |true=>
    rw[hq] at hgc
    obtain⟨T1,h1,h2⟩:=roOg bB C K G n ck cg c0 c1 c2 c3 c4 c5 cl cur gone v i S (fQ n cur gone .out v i) true (M:=M1) X1 gbB0 gC0 gK0 gG0 hc60 hcl hv hgl a0 (by omega) (decide_eq_true (by omega)) rfl hgc
    rw[aY (by omega)] at h2
    refine⟨S,T1,M1,h1,h2,X1,a1,?_⟩
    rw[show fQ n cur gone .out v (i+1)=fQ n cur gone .out v i by rw[fQ,hq];simp]
    exact a0
   |false=>
    rw[hq] at hgc
    obtain⟨T1,M2,S2,h1,h2,h3,h4,h5⟩:=roOs bB C K G n ck cg c0 c1 c2 c3 c4 c5 cl cur gone v i S (fQ n cur gone .out v i) false a1 X1 gbB0 gC0 gK0 gG0 hc60 hcl hv hgl a0 (by omega) (decide_eq_true (by omega)) rfl hgc
    rw[aY (by omega)] at h2
    refine⟨S2,T1,M2,h1,h2,h3,h4,?_⟩
    rw[show fQ n cur gone .out v (i+1)=fQ n cur gone .out v i++hJ n cur .out v i 5 by rw[fQ,hq];simp]
    exact h5)
  (by
   rintro S M1 ⟨X1,a1,a0⟩
   exact roOx bB C K G n ck cg c0 c1 c2 c3 c4 c5 cl cur gone v n S (M:=M1) X1 gbB0 gC0 gK0 gG0 (decide_eq_false (by omega)))
  n 0 (by omega) (s:=cI) (M:=M) ⟨X0,hM,.inl ⟨rfl,rfl,rfl⟩⟩
 exact⟨S',M',h1,h2,h3,h4⟩
theorem rK55:Try.f55.results= #[.tmp 6]:=by kernel_rfl
theorem aAz(bB C K G n ck cg:Nat)(c0 c1 c2 c3 c4 c5 cl:Value)(cur:List Int)(gone:List Bool)(v:Nat){M:aA}(hM:aB M)(gbB0:M.get bB=some ⟨[c0,c1,c2,c3,c4,c5,pt C 0,aD G 0 n cg],53,8,0,true⟩)(gC0:M.get C=some ⟨[i64 n,aD K 0 cur.length ck,cl],73,3,0,true⟩)(gK0:M.get K=some ⟨cur.map i64,3,1,0,true⟩)(gG0:M.get G=some ⟨gone.map Value.bool,4,1,0,true⟩)(hc60:n<=60)(hcl:cur.length=n*n*5)(hv:v<n)(hgl:gone.length=n): ∃v_ M',Ev Try.prog [] 55 [pt bB 0,.func (.func 56) ⟨[]⟩ ⟨[]⟩,i64 v] M v_ M'/\Ext M M'/\aB M'/\fG aP (cL n cur gone .out v) M.next v_ M':=by
 have gbB:=gbB0
 obtain⟨S1,M2,a0,X4,a1,A6⟩:=Wk hM (Ext.refl M) gbB0 gC0 gK0 gG0 hc60 hcl hv hgl
 exact⟨S1,M2,Ev.told_tmp (tb:=[0]) (n:=60) (F:=[aU 11 (aD G 0 n cg),.blk 16 [0,1,2,7,15,16,17] .normal (fr [(7,S1)]) M2]) aJ aI Try.func55 Re (by kernel_rfl) rK55 (fun B=>zN (gQ B) 0 a0) (fun _ h=>cF h) (by kernel_rfl) (hk (lC (o:=7) Se gbB rfl) (hq (.blk 0 (.loop (q55.loopAt 0)) Try.f55.ntmps [0,1,2,7,15,16,17] [some (pt bB 0),some (.func (.func 56) ⟨[]⟩ ⟨[]⟩),some (i64 (v:Int)),some cI,some (aD G 0 n cg),some (i64 (n:Int)),some (i64 0)] M .normal (fr [(7,S1)]) M2) (fH rfl) hn)),X4,a1,Hj A6 (by have h9:(cL n cur gone .out v).length<=5*n:=kW n cur gone .out v n;omega)⟩
theorem Wj{bB C K G n ck cg:Nat}{c0 c1 c2 c3 c4 c5 cl:Value}{cur:List Int}{gone:List Bool}{v:Nat}{M0 M:aA}(hM:aB M)(X0:Ext M0 M)(gbB0:M0.get bB=some ⟨[c0,c1,c2,c3,c4,c5,pt C 0,aD G 0 n cg],53,8,0,true⟩)(gC0:M0.get C=some ⟨[i64 n,aD K 0 cur.length ck,cl],73,3,0,true⟩)(gK0:M0.get K=some ⟨cur.map i64,3,1,0,true⟩)(gG0:M0.get G=some ⟨gone.map Value.bool,4,1,0,true⟩)(hc60:n<=60)(hcl:cur.length=n*n*5)(hv:v<n)(hgl:gone.length=n):
  ∃S' M',bJ Try.prog [] (q55.loopAt 0) Try.f55.ntmps (fr [(0,pt bB 0),(1,(.func (.func 57) ⟨[]⟩ ⟨[]⟩)),(2,i64 v),(7,cI),(15,aD G 0 n cg),(16,i64 n),(17,i64 ((0:Nat):Int))]) M (.exit 0) (fr [(7,S')]) M'/\Ext M0 M'/\aB M'/\cU 3 1 M0 [bB,C,K,G] (fQ n cur gone .inn v n).length ((fQ n cur gone .inn v n).map i64) S' M':=by
 obtain⟨S',M',h1,h2,h3,h4⟩:=bJ.for (P:=Try.prog) (GL:= []) (b:=q55.loopAt 0) (nt:=Try.f55.ntmps) (id:=0) (σ:=Value) (n:=n) (Inv:=fun i S M1=>Ext M0 M1/\aB M1/\cU 3 1 M0 [bB,C,K,G] (fQ n cur gone .inn v i).length ((fQ n cur gone .inn v i).map i64) S M1)
  (F:=fun i S=> [(0,pt bB 0),(1,(.func (.func 57) ⟨[]⟩ ⟨[]⟩)),(2,i64 v),(7,S),(15,aD G 0 n cg),(16,i64 n),(17,i64 ((i:Nat):Int))])
  (O:=fun S=> [(7,S)])
  (by
   rintro i S M1 hi ⟨X1,a1,a0⟩
   have hln:=kW n cur gone .inn v i
   have hgi:gone[i]?=some (dI gone i):=by unfold dI;rw[List.getElem?_eq_getElem (by omega)];rfl
   have hgc:(gone.map Value.bool)[0+((i:Int):Int).toNat*1]?=some (.bool (dI gone i)):=by simp [hgi]
   cases hq:dI gone i with
   |true=>
    rw[hq] at hgc
    obtain⟨T1,h1,h2⟩:=roIg bB C K G n ck cg c0 c1 c2 c3 c4 c5 cl cur gone v i S (fQ n cur gone .inn v i) true (M:=M1) X1 gbB0 gC0 gK0 gG0 hc60 hcl hv hgl a0 (by omega) (decide_eq_true (by omega)) rfl hgc
    rw[aY (by omega)] at h2
    refine⟨S,T1,M1,h1,h2,X1,a1,?_⟩
    rw[show fQ n cur gone .inn v (i+1)=fQ n cur gone .inn v i by rw[fQ,hq];simp]
    exact a0
   |false=>
    rw[hq] at hgc
    obtain⟨T1,M2,S2,h1,h2,h3,h4,h5⟩:=roIs bB C K G n ck cg c0 c1 c2 c3 c4 c5 cl cur gone v i S (fQ n cur gone .inn v i) false a1 X1 gbB0 gC0 gK0 gG0 hc60 hcl hv hgl a0 (by omega) (decide_eq_true (by omega)) rfl hgc
    rw[aY (by omega)] at h2
    refine⟨S2,T1,M2,h1,h2,h3,h4,?_⟩
    rw[show fQ n cur gone .inn v (i+1)=fQ n cur gone .inn v i++hJ n cur .inn v i 5 by rw[fQ,hq];simp]
    exact h5)
  (by
   rintro S M1 ⟨X1,a1,a0⟩
   exact roIx bB C K G n ck cg c0 c1 c2 c3 c4 c5 cl cur gone v n S (M:=M1) X1 gbB0 gC0 gK0 gG0 (decide_eq_false (by omega)))
  n 0 (by omega) (s:=cI) (M:=M) ⟨X0,hM,.inl ⟨rfl,rfl,rfl⟩⟩
 exact⟨S',M',h1,h2,h3,h4⟩
theorem aAy(bB C K G n ck cg:Nat)(c0 c1 c2 c3 c4 c5 cl:Value)(cur:List Int)(gone:List Bool)(v:Nat){M:aA}(hM:aB M)(gbB0:M.get bB=some ⟨[c0,c1,c2,c3,c4,c5,pt C 0,aD G 0 n cg],53,8,0,true⟩)(gC0:M.get C=some ⟨[i64 n,aD K 0 cur.length ck,cl],73,3,0,true⟩)(gK0:M.get K=some ⟨cur.map i64,3,1,0,true⟩)(gG0:M.get G=some ⟨gone.map Value.bool,4,1,0,true⟩)(hc60:n<=60)(hcl:cur.length=n*n*5)(hv:v<n)(hgl:gone.length=n): ∃v_ M',Ev Try.prog [] 55 [pt bB 0,.func (.func 57) ⟨[]⟩ ⟨[]⟩,i64 v] M v_ M'/\Ext M M'/\aB M'/\fG aP (cL n cur gone .inn v) M.next v_ M':=by
 have gbB:=gbB0
 obtain⟨S1,M2,a0,X4,a1,A6⟩:=Wj hM (Ext.refl M) gbB0 gC0 gK0 gG0 hc60 hcl hv hgl
 exact⟨S1,M2,Ev.told_tmp (tb:=[0]) (n:=60) (F:=[aU 11 (aD G 0 n cg),.blk 16 [0,1,2,7,15,16,17] .normal (fr [(7,S1)]) M2]) aJ aI Try.func55 Re (by kernel_rfl) rK55 (fun B=>zN (gQ B) 0 a0) (fun _ h=>cF h) (by kernel_rfl) (hk (lC (o:=7) Se gbB rfl) (hq (.blk 0 (.loop (q55.loopAt 0)) Try.f55.ntmps [0,1,2,7,15,16,17] [some (pt bB 0),some (.func (.func 57) ⟨[]⟩ ⟨[]⟩),some (i64 (v:Int)),some cI,some (aD G 0 n cg),some (i64 (n:Int)),some (i64 0)] M .normal (fr [(7,S1)]) M2) (fH rfl) hn)),X4,a1,Hj A6 (by have h9:(cL n cur gone .inn v).length<=5*n:=kW n cur gone .inn v n;omega)⟩
def Uo:Go.Am.Df->FuncId
 | .out=>56
 | .inn=>57
def Gt(w:Go.Am.Df)(v:Value)(_:aA):Prop:=v= .func (.func (Uo w)) ⟨[]⟩ ⟨[]⟩
instance:AP Gt:=⟨fun{x y v _} h k=>by unfold Gt at h k;rw[h] at k;cases x<;>cases y<;>first|rfl|(simp [Uo] at k),fun _ h=>h⟩
abbrev Q55:=FC (iG (Uu pBr Gt pN) fun x:(Nat×List Int×List Bool)×Go.Am.Df×Nat=>x.1.1<=60/\x.1.2.1.length=x.1.1*x.1.1*5/\x.2.2<x.1.1/\x.1.2.2.length=x.1.1) (fG aP) (fun x=>cL x.1.1 x.1.2.1 x.1.2.2 x.2.1 x.2.2)
theorem Pp{x:(Nat×List Int×List Bool)×Go.Am.Df×Nat}{lv:List Value}{M:aA}(hM:aB M)(h:(iG (Uu pBr Gt pN) fun x:(Nat×List Int×List Bool)×Go.Am.Df×Nat=>x.1.1<=60/\x.1.2.1.length=x.1.1*x.1.1*5/\x.2.2<x.1.1/\x.1.2.2.length=x.1.1) x lv M): ∃v M',lQ Try.prog [] 55 Q55 lv M v M':=by
 refine FC.con h ?_
 obtain⟨⟨g0,g1,g2,rfl,k0,k1,k2⟩,h1,h2,h3,h4⟩:=h
 obtain⟨⟨n,cur,gone⟩,w,v⟩:=x
 obtain rfl:=k1
 obtain rfl:=k2
 obtain⟨bB,C,G,cg,c0,c1,c2,c3,c4,c5,rfl,gB,⟨C',K,ck,cl,e,gC,gK⟩,gG⟩:=k0
 simp only [pt,Value.pointer.injEq,Option.some.injEq,Addr.mk.injEq,and_true] at e
 subst e
 cases w with
 |out=>
  obtain⟨v',M',q1,q2,_,q3⟩:=aAz bB C K G n ck cg c0 c1 c2 c3 c4 c5 cl cur gone v hM gB gC gK gG h1 h2 h3 h4
  exact⟨v',M',q1,q2,q3⟩
 |inn=>
  obtain⟨v',M',q1,q2,_,q3⟩:=aAy bB C K G n ck cg c0 c1 c2 c3 c4 c5 cl cur gone v hM gB gC gK gG h1 h2 h3 h4
  exact⟨v',M',q1,q2,q3⟩
end Go.Proofs.Ytdaglldahidmbaa
