/-
  Package hier: each of its laws for every argument; no conditions. The last text states which.
-/
import Derived.Test.YtdaglldahidmbaaGreatGAmMemo
import Derived.Test.YtdaglldahidmbaaGreatGAmTn
import Derived.Test.YtdaglldahidmbaaGreatGVB
import Derived.Test.YtdaglldahidmbaaGreatGVPC
set_option linter.unusedVariables false
set_option linter.unusedSimpArgs false
open Go Go.Am Go.Proofs Tryz
namespace Go.Proofs.YtdaglldahidmbaaGreat
set_option maxRecDepth 100000
def Kr(k:Nat):Rp:=⟨[aC 0 0 1 2,i64 k],[⟨[i64 (-1)],3,1,0,true⟩],aC 1 0 k (k+1),[1],[⟨List.replicate k (i64 (-1)),3,1,0,true⟩]⟩
def cE(k:Nat):Prop:=Im prog (tZ [] []) 300 51 (Kr k)=some ((Kr k).v0,(Kr k).news.map some,true)
theorem rp1:cE 1/\cE (1*1*5):=⟨by unfold cE;kernel_rfl,by unfold cE;kernel_rfl⟩
theorem rp2:cE 2/\cE (2*2*5):=⟨by unfold cE;kernel_rfl,by unfold cE;kernel_rfl⟩
theorem rp3:cE 3/\cE (3*3*5):=⟨by unfold cE;kernel_rfl,by unfold cE;kernel_rfl⟩
theorem rp4:cE 4/\cE (4*4*5):=⟨by unfold cE;kernel_rfl,by unfold cE;kernel_rfl⟩
theorem rp5:cE 5/\cE (5*5*5):=⟨by unfold cE;kernel_rfl,by unfold cE;kernel_rfl⟩
theorem rp6:cE 6/\cE (6*6*5):=⟨by unfold cE;kernel_rfl,by unfold cE;kernel_rfl⟩
theorem rp7:cE 7/\cE (7*7*5):=⟨by unfold cE;kernel_rfl,by unfold cE;kernel_rfl⟩
theorem rp8:cE 8/\cE (8*8*5):=⟨by unfold cE;kernel_rfl,by unfold cE;kernel_rfl⟩
theorem rp9:cE 9/\cE (9*9*5):=⟨by unfold cE;kernel_rfl,by unfold cE;kernel_rfl⟩
theorem rp10:cE 10/\cE (10*10*5):=⟨by unfold cE;kernel_rfl,by unfold cE;kernel_rfl⟩
theorem rp11:cE 11/\cE (11*11*5):=⟨by unfold cE;kernel_rfl,by unfold cE;kernel_rfl⟩
theorem rp12:cE 12/\cE (12*12*5):=⟨by unfold cE;kernel_rfl,by unfold cE;kernel_rfl⟩
theorem rp13:cE 13/\cE (13*13*5):=⟨by unfold cE;kernel_rfl,by unfold cE;kernel_rfl⟩
theorem rp14:cE 14/\cE (14*14*5):=⟨by unfold cE;kernel_rfl,by unfold cE;kernel_rfl⟩
theorem rp15:cE 15/\cE (15*15*5):=⟨by unfold cE;kernel_rfl,by unfold cE;kernel_rfl⟩
theorem rp16:cE 16/\cE (16*16*5):=⟨by unfold cE;kernel_rfl,by unfold cE;kernel_rfl⟩
theorem rp17:cE 17/\cE (17*17*5):=⟨by unfold cE;kernel_rfl,by unfold cE;kernel_rfl⟩
theorem rp18:cE 18/\cE (18*18*5):=⟨by unfold cE;kernel_rfl,by unfold cE;kernel_rfl⟩
theorem rp19:cE 19/\cE (19*19*5):=⟨by unfold cE;kernel_rfl,by unfold cE;kernel_rfl⟩
theorem rp20:cE 20/\cE (20*20*5):=⟨by unfold cE;kernel_rfl,by unfold cE;kernel_rfl⟩
theorem rp21:cE 21/\cE (21*21*5):=⟨by unfold cE;kernel_rfl,by unfold cE;kernel_rfl⟩
theorem rp22:cE 22/\cE (22*22*5):=⟨by unfold cE;kernel_rfl,by unfold cE;kernel_rfl⟩
theorem rp23:cE 23/\cE (23*23*5):=⟨by unfold cE;kernel_rfl,by unfold cE;kernel_rfl⟩
theorem rp24:cE 24/\cE (24*24*5):=⟨by unfold cE;kernel_rfl,by unfold cE;kernel_rfl⟩
theorem Uz(n:Nat)(h:1<=n/\n<=24):cE n/\cE (n*n*5):=by
 have h2:n=1\/n=2\/n=3\/n=4\/n=5\/n=6\/n=7\/n=8\/n=9\/n=10\/n=11\/n=12\/n=13\/n=14\/n=15\/n=16\/n=17\/n=18\/n=19\/n=20\/n=21\/n=22\/n=23\/n=24:=by omega
 rcases h2 with rfl|rfl|rfl|rfl|rfl|rfl|rfl|rfl|rfl|rfl|rfl|rfl|rfl|rfl|rfl|rfl|rfl|rfl|rfl|rfl|rfl|rfl|rfl|rfl
 ·exact rp1
 ·exact rp2
 ·exact rp3
 ·exact rp4
 ·exact rp5
 ·exact rp6
 ·exact rp7
 ·exact rp8
 ·exact rp9
 ·exact rp10
 ·exact rp11
 ·exact rp12
 ·exact rp13
 ·exact rp14
 ·exact rp15
 ·exact rp16
 ·exact rp17
 ·exact rp18
 ·exact rp19
 ·exact rp20
 ·exact rp21
 ·exact rp22
 ·exact rp23
 ·exact rp24
open Tryz
theorem gm{b k:Nat}{M:aB}(hg:M.get b=some ⟨[i64 (-1)],3,1,0,true⟩):Kq (Kr k) [aC b 0 1 2,i64 k] M=some (aC M.next 0 k (k+1),M.alloc ⟨List.replicate k (i64 (-1)),3,1,0,true⟩):=by
 have h1:vL [aC b 0 1 2,i64 k]= [b]:=rfl
 have t1:jO (rC 0 [b]) b=some 0:=by simp [rC,jO,Nat.beq_refl]
 have h2:kI (rC 0 [b]) [aC b 0 1 2,i64 k]=some (Kr k).args0:=by
  simp only [kI,mL,nE,t1]
  rfl
 have h3:Es (Kr k).args0 (Kr k).args0=true:=by
  simp only [Kr,Es,Hg,Cc,i64,Nat.beq_refl]
  simp
 have h4:rQ M [b] (Kr k).blks=true:=by
  simp only [Kr,rQ,hg]
  rfl
 have t2:jO (lS M.next (Kr k).newsS) 1=some M.next:=by simp [Kr,lS,jO]
 have h5:mL (lS M.next (Kr k).newsS) (Kr k).v0=some (aC M.next 0 k (k+1)):=by
  show mL (lS M.next (Kr k).newsS) (aC 1 0 k (k+1))=_
  simp only [mL,nE,t2]
 unfold Kq
 rw[h1,h2,h4,h5]
 show(bif Go.Am.iK [b]&&Es (Kr k).args0 (Kr k).args0&&true then _ else none)=_
 rw[h3]
 rfl
def pRep(k nx:Nat)(v:Value)(M:aB):Prop:= ∃b,v=aC b 0 k (k+1)/\nx<=b/\M.get b=some ⟨List.replicate k (i64 (-1)),3,1,0,true⟩
instance:AQ pRep:=⟨fun hE ⟨b,h1,h2,h3⟩=>⟨b,h1,h2,hE _ _ h3⟩⟩
def aAz(_:Unit)(v:Value)(M:aB):Prop:= ∃b,v=aC b 0 1 2/\M.get b=some ⟨[i64 (-1)],3,1,0,true⟩
instance:AP aAz:=⟨fun _ _=>rfl,fun hE ⟨b,h1,h2⟩=>⟨b,h1,hE _ _ h2⟩⟩
theorem kr_st(k:Nat):Io (Kr k)=true:=by
 have:dI (List.replicate k (i64 (-1)))=true:=by
  induction k with
  |zero=>rfl
  |succ k ih=>rw[List.replicate_succ];simp only [dI,ih,i64];rfl
 unfold Io Kr
 simp only [zE,this]
 rfl
def Yo(k:Nat):Prop:= ∃n,(1<=n/\n<=24)/\(k=n\/k=n*n*5)
abbrev Q51:=FC (gN (lX aAz pN) fun x=>Yo x.2) pRep (fun x=>x.2)
theorem Sn{x:Unit×Nat}{lv:List Value}{M:aB}(hM:aA M)(h:(gN (lX aAz pN) fun x=>Yo x.2) x lv M): ∃v M',kR prog [] 51 Q51 lv M v M':=by
 refine FC.con h ?_
 obtain⟨⟨g0,g1,rfl,k0,k1⟩,n,hn,hk⟩:=h
 obtain⟨_,k⟩:=x
 obtain rfl:=k1
 obtain⟨b,rfl,hg⟩:=k0
 simp only at hk
 have hr:cE k:=by exact hk.elim (fun e=>e▸(Uz _ hn).1) (fun e=>e▸(Uz _ hn).2)
 have hs: ∀B,dG prog [] B 51 (Kq (Kr k)):=fun B=>dG.memo aG aF (Kr k) (aI prog) (kr_st k) hr
 exact⟨_,_,Ev.of_spec hs (gm hg),Ext.alloc M _,M.next,rfl,Nat.le_refl _,mQ hM _ rfl⟩
open Tryz
theorem rK84:Tryz.f84.results= #[.tmp 8]:=by kernel_rfl
theorem w72(C K c n:Nat)(cl:Value)(cur:List Int)(f t m:Int){M:aB}(hM:aA M)(gC:M.get C=some ⟨[i64 n,aC K 0 cur.length c,cl],79,3,0,true⟩)(gK:M.get K=some ⟨cur.map i64,3,1,0,true⟩): ∃v_ M',Ev prog [] 84 [pt C 0,i64 f,i64 t,i64 m] M v_ M'/\Ext M M'/\aA M'/\v_=(i64 (IntKind.wrap .i64 ((IntKind.wrap .i64 ((IntKind.wrap .i64 ((IntKind.wrap .i64 (f*(n:Int)))+t))*(5:Int)))+m))):=by
 exact⟨i64 (IntKind.wrap .i64 ((IntKind.wrap .i64 ((IntKind.wrap .i64 ((IntKind.wrap .i64 (f*(n:Int)))+t))*(5:Int)))+m)),M,Ev.told_tmp (tb:=[]) (n:=60) (F:=[aR 11 (i64 (n:Int))]) aG aF Tryz.func84 aAY (by kernel_rfl) rK84 (aI prog) (fun _ _=>rfl) (by kernel_rfl) (hk (lO 0 bQ gC rfl) hn),Ext.refl M,hM,rfl⟩
abbrev Vn:=FC (gN (Sd (qR 79) pI pI pI) fun x:(Nat×List Int)×Int×Int×Int=>x.1.1<=60/\(0<=x.2.1/\x.2.1<x.1.1)/\(0<=x.2.2.1/\x.2.2.1<x.1.1)/\(0<=x.2.2.2/\x.2.2.2<5)) (plain pI) (fun x=>dP x.1.1 x.2.1 x.2.2.1 x.2.2.2)
theorem Gh{x:(Nat×List Int)×Int×Int×Int}{lv:List Value}{M:aB}(hM:aA M)(h:(gN (Sd (qR 79) pI pI pI) fun x:(Nat×List Int)×Int×Int×Int=>x.1.1<=60/\(0<=x.2.1/\x.2.1<x.1.1)/\(0<=x.2.2.1/\x.2.2.1<x.1.1)/\(0<=x.2.2.2/\x.2.2.2<5)) x lv M): ∃v M',kR prog [] 84 Vn lv M v M':=by
 refine FC.con h ?_
 obtain⟨⟨g0,g1,g2,g3,rfl,k0,k1,k2,k3⟩,a0⟩:=h
 obtain⟨⟨n,cur⟩,f,t,m⟩:=x
 obtain rfl:=k1
 obtain rfl:=k2
 obtain rfl:=k3
 obtain⟨C,K,c,cl,rfl,gC,gK⟩:=k0
 obtain⟨v,M',h1,h2,_,h3⟩:=w72 C K c n cl cur f t m hM gC gK
 exact⟨v,M',h1,h2,by rw[h3,Wy a0.1 a0.2.1 a0.2.2.1 a0.2.2.2];rfl⟩
theorem rK63:Tryz.f63.results= #[.tmp 8]:=by kernel_rfl
theorem w56(C K c n v u m:Nat)(cl:Value)(cur:List Int)(z:Int){M:aB}(hM:aA M)(gC:M.get C=some ⟨[i64 n,aC K 0 cur.length c,cl],79,3,0,true⟩)(gK:M.get K=some ⟨cur.map i64,3,1,0,true⟩)(b9:n<=60/\(0<=(v:Int)/\(v:Int)<(n:Int))/\(0<=(u:Int)/\(u:Int)<(n:Int))/\(0<=(m:Int)/\(m:Int)<5))(b2:0<=(dP (n:Int) (v:Int) (u:Int) (m:Int):Int)/\(dP (n:Int) (v:Int) (u:Int) (m:Int):Int)<cur.length)(b8:(cur.map i64)[0+(dP (n:Int) (v:Int) (u:Int) (m:Int):Int).toNat*1]?=some (i64 z)): ∃v_ M',Ev prog [] 63 [pt C 0,i64 v,i64 u,i64 m] M v_ M'/\Ext M M'/\aA M'/\v_=i64 z:=by
 obtain⟨R1,a3⟩:=Jk M M []
 have X3:Ext (aB.mk M.blks M.next M.hide []) R1:=by rw[a3];exact Ext.aside (Ext.refl M)
 have c1:R1.log= []:=by rw[a3]
 have b7:=Jl a3 hM
 have a9:=aB.lt_of_get gC
 have g6:=cF a3 gC
 have g7:=cF a3 gK
 obtain⟨w8,N9,a0,c2,c0,b1,b0,a6,b3⟩:=aL (x:=((n,cur),(v:Int),(u:Int),(m:Int))) b7 Gh (⟨⟨_,_,_,_,rfl,⟨C,K,c,cl,rfl,g6,g7⟩,rfl,rfl,rfl⟩,b9⟩)
 have b6:=b0.old g7
 have b5:w8=i64 (dP (n:Int) (v:Int) (u:Int) (m:Int)):=b3
 subst b5
 have a8:a0.log= []:=by rw[<-b1];exact c1
 have a5:=X3.trans b0
 obtain⟨a4,a2⟩: ∃m:aB,m=(aB.mk a0.blks a0.next a0.hide (a0.log++M.log)):=⟨_,rfl⟩
 have b4:Ext M a4:=by rw[a2];exact Ext.join (Ext.refl M) (a5)
 have a7:aA a4:=by rw[a2];exact a6
 have a1:oT prog [] 60 Tryz.f63 q63 [pt C 0,i64 v,i64 u,i64 m] M [aR 9 (aC K 0 cur.length c),bJ 19 (i64 (dP (n:Int) (v:Int) (u:Int) (m:Int))) a0,aQ 21,aR 23 (i64 z)] 8=some (.ret,some (i64 z),aB.mk a0.blks a0.next M.hide (a0.log++M.log),[qL 22 C 1 (aB.mk M.blks M.next M.hide []) (aC K 0 cur.length c),qT (Nat.blt C M.next),qC 84 [pt C 0,i64 (v:Int),i64 (u:Int),i64 (m:Int)] (aB.mk M.blks M.next M.hide []) (i64 (dP (n:Int) (v:Int) (u:Int) (m:Int))) a0,.q (.inb (dP (n:Int) (v:Int) (u:Int) (m:Int)) cur.length) (eD true),qL 3 K (0+(dP (n:Int) (v:Int) (u:Int) (m:Int):Int).toNat*1) (aB.mk a0.blks a0.next M.hide a0.log) (i64 z),qT (cZ [C] a0.log)]):=by kernel_rfl
 have c3:aB.mk M.blks M.next M.hide []=R1:=a3.symm
 have c4:=pT ((Ext.refl M).hide.trans (a5).hide.symm)
 have c5:=Dr (L:=(a0.log++M.log)) ((Ext.refl M).hide.trans (a5).hide.symm)
 have c6:(aB.mk a0.blks a0.next a0.hide (a0.log++M.log))=a4:=a2.symm
 try rw[c3] at a1
 try rw[c4] at a1
 try rw[c5] at a1
 try rw[c6] at a1
 exact⟨i64 z,a4,Ev.told_tmp aG aF Tryz.func63 aAT (by kernel_rfl) rK63 (fun B=>lV (gH 84 Vn (gL _))) (fun _ _=>rfl) a1 (hk (lC jW g6 rfl) (hk (lG a9) (hk (aK rfl c2 c0 b1) (hk (dE b2.1 b2.2) (hk (eO (bI (a:=⟨K,0+(dP (n:Int) (v:Int) (u:Int) (m:Int):Int).toNat*1,none⟩) bQ b6 b8)) (hk (eA (by rw[a8];simp<;>omega)) hn)))))),b4,a7,rfl⟩
abbrev Q63:=FC (gN (Sd (qR 79) pN pN pN) fun x:(Nat×List Int)×Nat×Nat×Nat=>x.1.1<=60/\x.1.2.length=x.1.1*x.1.1*5/\x.2.1<x.1.1/\x.2.2.1<x.1.1/\x.2.2.2<5) (plain pI) (fun x=>aX x.1.2 (bK x.1.1 .out x.2.1 x.2.2.1 x.2.2.2))
theorem Ya{x:(Nat×List Int)×Nat×Nat×Nat}{lv:List Value}{M:aB}(hM:aA M)(h:(gN (Sd (qR 79) pN pN pN) fun x:(Nat×List Int)×Nat×Nat×Nat=>x.1.1<=60/\x.1.2.length=x.1.1*x.1.1*5/\x.2.1<x.1.1/\x.2.2.1<x.1.1/\x.2.2.2<5) x lv M): ∃v M',kR prog [] 63 Q63 lv M v M':=by
 refine FC.con h ?_
 obtain⟨⟨g0,g1,g2,g3,rfl,k0,k1,k2,k3⟩,hn,hl,hv,hu,hm⟩:=h
 obtain⟨⟨n,cur⟩,v,u,m⟩:=x
 obtain rfl:=k1
 obtain rfl:=k2
 obtain rfl:=k3
 obtain⟨C,K,c,cl,rfl,gC,gK⟩:=k0
 simp only at hn hl hv hu hm gC gK
 have hk:=uK (w:= .out) hv hu hm
 have hs:=gI (cur:=cur) (by rw[hl];exact hk)
 have e0:dP (n:Int) (v:Int) (u:Int) (m:Int)=((bK n .out v u m:Nat):Int):=by unfold bK dP;push_cast;rfl
 obtain⟨v',M',h1,h2,_,h3⟩:=w56 C K c n v u m cl cur (aX cur (bK n .out v u m)) hM gC gK ⟨hn,by omega,by omega,by omega⟩ (by rw[e0];omega) (by rw[e0];simp [hs])
 exact⟨v',M',h1,h2,h3⟩
theorem rK64:Tryz.f64.results= #[.tmp 8]:=by kernel_rfl
theorem w57(C K c n v u m:Nat)(cl:Value)(cur:List Int)(z:Int){M:aB}(hM:aA M)(gC:M.get C=some ⟨[i64 n,aC K 0 cur.length c,cl],79,3,0,true⟩)(gK:M.get K=some ⟨cur.map i64,3,1,0,true⟩)(b9:n<=60/\(0<=(u:Int)/\(u:Int)<(n:Int))/\(0<=(v:Int)/\(v:Int)<(n:Int))/\(0<=(m:Int)/\(m:Int)<5))(b2:0<=(dP (n:Int) (u:Int) (v:Int) (m:Int):Int)/\(dP (n:Int) (u:Int) (v:Int) (m:Int):Int)<cur.length)(b8:(cur.map i64)[0+(dP (n:Int) (u:Int) (v:Int) (m:Int):Int).toNat*1]?=some (i64 z)): ∃v_ M',Ev prog [] 64 [pt C 0,i64 v,i64 u,i64 m] M v_ M'/\Ext M M'/\aA M'/\v_=i64 z:=by
 obtain⟨R1,a3⟩:=Jk M M []
 have X3:Ext (aB.mk M.blks M.next M.hide []) R1:=by rw[a3];exact Ext.aside (Ext.refl M)
 have c1:R1.log= []:=by rw[a3]
 have b7:=Jl a3 hM
 have a9:=aB.lt_of_get gC
 have g6:=cF a3 gC
 have g7:=cF a3 gK
 obtain⟨w8,N9,a0,c2,c0,b1,b0,a6,b3⟩:=aL (x:=((n,cur),(u:Int),(v:Int),(m:Int))) b7 Gh (⟨⟨_,_,_,_,rfl,⟨C,K,c,cl,rfl,g6,g7⟩,rfl,rfl,rfl⟩,b9⟩)
 have b6:=b0.old g7
 have b5:w8=i64 (dP (n:Int) (u:Int) (v:Int) (m:Int)):=b3
 subst b5
 have a8:a0.log= []:=by rw[<-b1];exact c1
 have a5:=X3.trans b0
 obtain⟨a4,a2⟩: ∃m:aB,m=(aB.mk a0.blks a0.next a0.hide (a0.log++M.log)):=⟨_,rfl⟩
 have b4:Ext M a4:=by rw[a2];exact Ext.join (Ext.refl M) (a5)
 have a7:aA a4:=by rw[a2];exact a6
 have a1:oT prog [] 60 Tryz.f64 q64 [pt C 0,i64 v,i64 u,i64 m] M [aR 9 (aC K 0 cur.length c),bJ 19 (i64 (dP (n:Int) (u:Int) (v:Int) (m:Int))) a0,aQ 21,aR 23 (i64 z)] 8=some (.ret,some (i64 z),aB.mk a0.blks a0.next M.hide (a0.log++M.log),[qL 22 C 1 (aB.mk M.blks M.next M.hide []) (aC K 0 cur.length c),qT (Nat.blt C M.next),qC 84 [pt C 0,i64 (u:Int),i64 (v:Int),i64 (m:Int)] (aB.mk M.blks M.next M.hide []) (i64 (dP (n:Int) (u:Int) (v:Int) (m:Int))) a0,.q (.inb (dP (n:Int) (u:Int) (v:Int) (m:Int)) cur.length) (eD true),qL 3 K (0+(dP (n:Int) (u:Int) (v:Int) (m:Int):Int).toNat*1) (aB.mk a0.blks a0.next M.hide a0.log) (i64 z),qT (cZ [C] a0.log)]):=by kernel_rfl
 have c3:aB.mk M.blks M.next M.hide []=R1:=a3.symm
 have c4:=pT ((Ext.refl M).hide.trans (a5).hide.symm)
 have c5:=Dr (L:=(a0.log++M.log)) ((Ext.refl M).hide.trans (a5).hide.symm)
 have c6:(aB.mk a0.blks a0.next a0.hide (a0.log++M.log))=a4:=a2.symm
 try rw[c3] at a1
 try rw[c4] at a1
 try rw[c5] at a1
 try rw[c6] at a1
 exact⟨i64 z,a4,Ev.told_tmp aG aF Tryz.func64 aAU (by kernel_rfl) rK64 (fun B=>lV (gH 84 Vn (gL _))) (fun _ _=>rfl) a1 (hk (lC jW g6 rfl) (hk (lG a9) (hk (aK rfl c2 c0 b1) (hk (dE b2.1 b2.2) (hk (eO (bI (a:=⟨K,0+(dP (n:Int) (u:Int) (v:Int) (m:Int):Int).toNat*1,none⟩) bQ b6 b8)) (hk (eA (by rw[a8];simp<;>omega)) hn)))))),b4,a7,rfl⟩
abbrev Q64:=FC (gN (Sd (qR 79) pN pN pN) fun x:(Nat×List Int)×Nat×Nat×Nat=>x.1.1<=60/\x.1.2.length=x.1.1*x.1.1*5/\x.2.1<x.1.1/\x.2.2.1<x.1.1/\x.2.2.2<5) (plain pI) (fun x=>aX x.1.2 (bK x.1.1 .inn x.2.1 x.2.2.1 x.2.2.2))
theorem Yb{x:(Nat×List Int)×Nat×Nat×Nat}{lv:List Value}{M:aB}(hM:aA M)(h:(gN (Sd (qR 79) pN pN pN) fun x:(Nat×List Int)×Nat×Nat×Nat=>x.1.1<=60/\x.1.2.length=x.1.1*x.1.1*5/\x.2.1<x.1.1/\x.2.2.1<x.1.1/\x.2.2.2<5) x lv M): ∃v M',kR prog [] 64 Q64 lv M v M':=by
 refine FC.con h ?_
 obtain⟨⟨g0,g1,g2,g3,rfl,k0,k1,k2,k3⟩,hn,hl,hv,hu,hm⟩:=h
 obtain⟨⟨n,cur⟩,v,u,m⟩:=x
 obtain rfl:=k1
 obtain rfl:=k2
 obtain rfl:=k3
 obtain⟨C,K,c,cl,rfl,gC,gK⟩:=k0
 simp only at hn hl hv hu hm gC gK
 have hk:=uK (w:= .inn) hv hu hm
 have hs:=gI (cur:=cur) (by rw[hl];exact hk)
 have e0:dP (n:Int) (u:Int) (v:Int) (m:Int)=((bK n .inn v u m:Nat):Int):=by unfold bK dP;push_cast;rfl
 obtain⟨v',M',h1,h2,_,h3⟩:=w57 C K c n v u m cl cur (aX cur (bK n .inn v u m)) hM gC gK ⟨hn,by omega,by omega,by omega⟩ (by rw[e0];omega) (by rw[e0];simp [hs])
 exact⟨v',M',h1,h2,h3⟩
open Tryz
theorem iU:(prog.underlying 29).map dV=some false:=by kernel_rfl
theorem dS29:(prog.info? 29).map (·.size)=some 1:=by kernel_rfl
theorem sN:(prog.underlying 42).map dV=some true:=by kernel_rfl
theorem kG:(prog.info? 42).map (·.size)=some 7:=by kernel_rfl
theorem rK53:Tryz.f53.results= #[.tmp 4]:=by kernel_rfl
theorem w46(B ab ao ca:Nat)(c0 c1 c2 c4 c5 c6 c7:Value)(arcs:List A7)(i z:Int){M:aB}(hM:aA M)(gB:M.get B=some ⟨[c0,c1,c2,aC ab ao arcs.length ca,c4,c5,c6,c7],56,8,0,true⟩)(a1:0<=(i:Int)/\(i:Int)<arcs.length)(a0:bA prog 3 ⟨ab,ao+(i:Int).toNat*7+3,none⟩ M=some (i64 z)): ∃v_ M',Ev prog [] 53 [pt B 0,i64 i] M v_ M'/\Ext M M'/\aA M'/\v_=i64 z:=by
 exact⟨i64 z,M,Ev.told_tmp (tb:=[]) (n:=60) (F:=[aR 11 (aC ab ao arcs.length ca),aQ 15,aR 19 (i64 z)]) aG aF Tryz.func53 aAM (by kernel_rfl) rK53 (aI prog) (fun _ _=>rfl) (by kernel_rfl) (hk (lO 3 iU gB rfl) (hk (qI i arcs.length a1.1 a1.2) (hk (lD (a0)) hn))),Ext.refl M,hM,rfl⟩
abbrev Q53:=FC (gN (lX (Mw 56) pI) fun x:List A7×Int=>0<=x.2/\x.2<(x.1.length:Int)) (plain pI) (fun x=>cU x.1 x.2)
theorem con53{x:List A7×Int}{lv:List Value}{M:aB}(hM:aA M)(h:(gN (lX (Mw 56) pI) fun x:List A7×Int=>0<=x.2/\x.2<(x.1.length:Int)) x lv M): ∃v M',kR prog [] 53 Q53 lv M v M':=by
 refine FC.con h ?_
 obtain⟨⟨g0,g1,rfl,k0,k1⟩,a0⟩:=h
 obtain⟨arcs,i⟩:=x
 obtain rfl:=k1
 obtain⟨B,c0,c1,c2,c3,c4,c5,c6,c7,rfl,gB,hs⟩:=k0
 simp only at a0 hs
 obtain⟨a,c,rfl⟩:=aJ.form hs
 obtain⟨b,o,rfl,_⟩:=bU hs (by omega)
 have ht:arcs[i.toNat]?=some arcs[i.toNat]:=xAe (by omega)
 have hl:=mF (P:=prog) (ty:=3) (j:=3) (v:=i64 arcs[i.toNat].c) hs ht rfl bQ
 obtain⟨v,M',h1,h2,_,h3⟩:=w46 B b o c c0 c1 c2 c4 c5 c6 c7 arcs i arcs[i.toNat].c hM gB a0 hl
 exact⟨v,M',h1,h2,by rw[h3,Ns ht];rfl⟩
theorem rK54:Tryz.f54.results= #[.tmp 4]:=by kernel_rfl
theorem w47(B eb eo ce:Nat)(c0 c2 c3 c4 c5 c6 c7:Value)(es:List E4)(i z:Int){M:aB}(hM:aA M)(gB:M.get B=some ⟨[c0,aC eb eo es.length ce,c2,c3,c4,c5,c6,c7],56,8,0,true⟩)(a1:0<=(i:Int)/\(i:Int)<es.length)(a0:bA prog 3 ⟨eb,eo+(i:Int).toNat*4+3,none⟩ M=some (i64 z)): ∃v_ M',Ev prog [] 54 [pt B 0,i64 i] M v_ M'/\Ext M M'/\aA M'/\v_=i64 z:=by
 exact⟨i64 z,M,Ev.told_tmp (tb:=[]) (n:=60) (F:=[aR 13 (aC eb eo es.length ce),aQ 17,aR 21 (i64 z)]) aG aF Tryz.func54 aAN (by kernel_rfl) rK54 (aI prog) (fun _ _=>rfl) (by kernel_rfl) (hk (lO 1 nL gB rfl) (hk (qI i es.length a1.1 a1.2) (hk (lD (a0)) hn))),Ext.refl M,hM,rfl⟩
abbrev Q54:=FC (gN (lX (Iw 56) pI) fun x:List E4×Int=>0<=x.2/\x.2<(x.1.length:Int)) (plain pI) (fun x=>dS x.1 x.2)
theorem con54{x:List E4×Int}{lv:List Value}{M:aB}(hM:aA M)(h:(gN (lX (Iw 56) pI) fun x:List E4×Int=>0<=x.2/\x.2<(x.1.length:Int)) x lv M): ∃v M',kR prog [] 54 Q54 lv M v M':=by
 refine FC.con h ?_
 obtain⟨⟨g0,g1,rfl,k0,k1⟩,a0⟩:=h
 obtain⟨es,i⟩:=x
 obtain rfl:=k1
 obtain⟨B,c0,c1,c2,c3,c4,c5,c6,c7,rfl,gB,hs⟩:=k0
 simp only at a0 hs
 obtain⟨a,c,rfl⟩:=aJ.form hs
 obtain⟨b,o,rfl,_⟩:=bU hs (by omega)
 have ht:es[i.toNat]?=some es[i.toNat]:=xAe (by omega)
 have hl:=mF (P:=prog) (ty:=3) (j:=3) (v:=i64 es[i.toNat].c) hs ht rfl bQ
 obtain⟨v,M',h1,h2,_,h3⟩:=w47 B b o c c0 c2 c3 c4 c5 c6 c7 es i es[i.toNat].c hM gB a0 hl
 exact⟨v,M',h1,h2,by rw[h3,Nt ht];rfl⟩
theorem rK56:Tryz.f56.results= #[.cell 4 42]:=by kernel_rfl
theorem w49(eb eo ce:Nat)(es:List E4)(e:E4)(i:Int){M:aB}(hM:aA M)(b7:0<=(i:Int)/\(i:Int)<es.length)(b2:bA prog 46 ⟨eb,eo+(i:Int).toNat*4,none⟩ M=some (.agg ⟨(cD e)⟩)): ∃v_ M',Ev prog [] 56 [aC eb eo es.length ce,i64 i] M v_ M'/\Ext M M'/\aA M'/\v_= .agg ⟨bM (iJ i e)⟩:=by
 obtain⟨b1,M2,b6,c1,g5,E6,c6⟩:=bC hM ⟨[i64 0,i64 0,i64 0,i64 0,i64 0,i64 0,i64 0],42,7,0,true⟩
 have c8:M.next<=b1:=by rw[<-b6];exact(Ext.refl M).next
 have X9:=(Ext.refl M).trans E6
 obtain⟨a6,a3,a1,a7,c2,b5,a8⟩:=bC c6 ⟨[i64 0,i64 0,i64 0,i64 0],46,4,0,true⟩
 have b4:=lQ a1 X9
 have a0:=fJ g5 a1
 have c3:=b5.old g5
 have b8:=X9.trans b5
 obtain⟨a4,d1,a2,b3,b9,a9,c9⟩:=aZ (o:=0) (v:=(.agg ⟨(cD e)⟩)) (new:= (cD e)) b8 b4 a8 nT c2 rfl rfl (Nat.zero_le _) (xAd rfl) rfl
 have c4:=(b3 _ a0).trans c3
 obtain⟨a5,q29,c5,c7,c0,b0,d0⟩:=aZ (o:=0) (v:=(.agg ⟨[i64 e.f,i64 e.t,i64 e.m,i64 e.c,i64 i,i64 0,i64 0]⟩)) (new:= [i64 e.f,i64 e.t,i64 e.m,i64 e.c,i64 i,i64 0,i64 0]) b9 c8 a9 kG c4 rfl rfl (Nat.zero_le _) (xAd rfl) rfl
 exact⟨.agg ⟨[i64 e.f,i64 e.t,i64 e.m,i64 e.c,i64 i,i64 0,i64 0]⟩,a5,Ev.told_cell (tb:=[]) (n:=60) (F:=[bJ 1 (pt b1 0) M2,aQ 7,aR 9 (.agg ⟨(cD e)⟩),bJ 11 (pt a6 0) a3,jE 13 a4,aR 17 (i64 e.f),aR 21 (i64 e.t),aR 25 (i64 e.m),aR 29 (i64 e.c),jE 35 a5]) aG aF Tryz.func56 aAO (by kernel_rfl) rK56 (aI prog) (fun _ _=>rfl) (by kernel_rfl) (mR (a:=⟨b1,0,none⟩) sN kG c5 rfl) (hq (.eq (cM prog 42 M) (1,.val (pt b1 0),M2)) (bN (by rw[<-b6,<-c1];kernel_rfl) xAc) (hk (qI i es.length b7.1 b7.2) (hk (lD (aN X9 b2)) (hq (.eq (cM prog 46 M2) (1,.val (pt a6 0),a3)) (bN (by rw[<-a1,<-a7];kernel_rfl) xAc) (hq (qS 46 a6 0 (.agg ⟨(cD e)⟩) a3 a4) (dB d1) (hk (lO 0 bQ a2 rfl) (hk (lO 1 bQ a2 rfl) (hk (lO 2 bQ a2 rfl) (hk (lO 3 bQ a2 rfl) (hq (qS 42 b1 0 (.agg ⟨[i64 e.f,i64 e.t,i64 e.m,i64 e.c,i64 i,i64 0,i64 0]⟩) a4 a5) (dB q29) hn)))))))))),c0,b0,rfl⟩
abbrev Q56:=FC (gN (lX aS pI) fun x:List E4×Int=>0<=x.2/\x.2<(x.1.length:Int)) (plain Fo) (fun x=>iJ x.2 (Yg x.1 x.2))
theorem Xx{x:List E4×Int}{lv:List Value}{M:aB}(hM:aA M)(h:(gN (lX aS pI) fun x:List E4×Int=>0<=x.2/\x.2<(x.1.length:Int)) x lv M): ∃v M',kR prog [] 56 Q56 lv M v M':=by
 refine FC.con h ?_
 obtain⟨⟨g0,g1,rfl,hs,k1⟩,a0⟩:=h
 obtain⟨es,i⟩:=x
 obtain rfl:=k1
 simp only at a0 hs
 obtain⟨a,c,rfl⟩:=aJ.form hs
 obtain⟨b,o,rfl,_⟩:=bU hs (by omega)
 have ht:es[i.toNat]?=some es[i.toNat]:=xAe (by omega)
 have hl:=kP (P:=prog) (ty:=46) hs ht tL nT
 obtain⟨v,M',h1,h2,_,h3⟩:=w49 b o c es es[i.toNat] i hM a0 hl
 exact⟨v,M',h1,h2,by show Fo (iJ i (Yg es i)) _ _;rw[Cr ht];exact h3⟩
theorem rK91:Tryz.f91.results= #[.cell 6 42]:=by kernel_rfl
theorem w79(ab ao ca:Nat)(arcs:List A7)(x y:A7)(ia ib:Int){M:aB}(hM:aA M)(h5:ab<M.next)(f6:0<=(ia:Int)/\(ia:Int)<arcs.length)(d4:bA prog 42 ⟨ab,ao+(ia:Int).toNat*7,none⟩ M=some (.agg ⟨(bM x)⟩))(f7:0<=(ib:Int)/\(ib:Int)<arcs.length)(d5:bA prog 42 ⟨ab,ao+(ib:Int).toNat*7,none⟩ M=some (.agg ⟨(bM y)⟩)): ∃v_ M',Ev prog [] 91 [aC ab ao arcs.length ca,i64 ia,i64 ib] M v_ M'/\Ext M M'/\aA M'/\v_= .agg ⟨bM ⟨x.f,y.t,x.m,IntKind.wrap .i64 (x.c+y.c),-1,ia,ib⟩⟩:=by
 obtain⟨b1,M2,f0,g1,g5,E6,h4⟩:=bC hM ⟨[i64 0,i64 0,i64 0,i64 0,i64 0,i64 0,i64 0],42,7,0,true⟩
 have h7:M.next<=b1:=by rw[<-f0];exact(Ext.refl M).next
 have X9:=(Ext.refl M).trans E6
 obtain⟨c5,a2⟩:=Jk M2 M2 []
 have c2:=Nk a2 X9
 have d6:c5.log= []:=by rw[a2]
 have a9:c5.next=M2.next:=by rw[a2]
 have c7:=Jl a2 h4
 have b5:=xAf h5 X9.next
 have ltb1M2:=aB.lt_of_get g5
 have f1:=cF a2 g5
 obtain⟨a7,a6,b4,b7,f2,e5,c8⟩:=bC c7 ⟨[i64 0,i64 0,i64 0,i64 0,i64 0,i64 0,i64 0],42,7,0,true⟩
 have e1:M.next<=a7:=(lQ b4 c2:)
 have b2:=fJ f1 b4
 have f3:=e5.old f1
 have d7:a6.log= []:=by rw[<-b7];exact d6
 have e6:=c2.trans e5
 obtain⟨b0,a3,a8,b8,g2,c3,c9⟩:=bC c8 ⟨[i64 0,i64 0,i64 0,i64 0,i64 0,i64 0,i64 0],42,7,0,true⟩
 have e2:M.next<=b0:=(lQ a8 e6:)
 have b3:=fJ f3 a8
 have a4:=fJ f2 a8
 have g3:=c3.old f3
 have g4:=c3.old f2
 have d8:a3.log= []:=by rw[<-b8];exact d7
 have e7:=e6.trans c3
 obtain⟨b6,h9,g6,b9,e8,d0,e3⟩:=aZ (o:=0) (v:=(.agg ⟨(bM x)⟩)) (new:= (bM x)) e7 e1 c9 kG g4 rfl rfl (Nat.zero_le _) (xAd rfl) rfl
 have g7:=(b9 _ b2).trans g3
 have g8:=(b9 _ (Ne.symm a4)).trans g2
 have d9:b6.log= [a7]:=by rw[e3,d8]
 obtain⟨a0,q50,g9,c0,e9,d1,e4⟩:=aZ (o:=0) (v:=(.agg ⟨(bM y)⟩)) (new:= (bM y)) e8 e2 d0 kG g8 rfl rfl (Nat.zero_le _) (xAd rfl) rfl
 have h0:=(c0 _ b3).trans g7
 have h1:=(c0 _ a4).trans g6
 have e0:a0.log= [b0,a7]:=by rw[e4,d9]
 obtain⟨c4,a5⟩: ∃m:aB,m=(aB.mk a0.blks a0.next a0.hide (a0.log++M2.log)):=⟨_,rfl⟩
 have f8:Ext M c4:=by rw[a5];exact Ext.join (X9) (e9)
 have d2:aA c4:=by rw[a5];exact d1
 have h2:=cF a5 h0
 have c6:=cF a5 h1
 have f4:=cF a5 g9
 obtain⟨c1,i0,h3,h6,g0,d3,h8⟩:=aZ (o:=0) (v:=(.agg ⟨[i64 x.f,i64 y.t,i64 x.m,i64 (IntKind.wrap .i64 (x.c+y.c)),i64 (-1),i64 ia,i64 ib]⟩)) (new:= [i64 x.f,i64 y.t,i64 x.m,i64 (IntKind.wrap .i64 (x.c+y.c)),i64 (-1),i64 ia,i64 ib]) f8 h7 d2 kG h2 rfl rfl (Nat.zero_le _) (xAd rfl) rfl
 have a1:oT prog [] 60 Tryz.f91 q91 [aC ab ao arcs.length ca,i64 ia,i64 ib] M [bJ 1 (pt b1 0) M2,aQ 7,aR 9 (.agg ⟨(bM x)⟩),aQ 15,aR 17 (.agg ⟨(bM y)⟩),bJ 19 (pt a7 0) a6,bJ 21 (pt b0 0) (aB.mk a3.blks a3.next (aV 0 [⟨8,1,M2.next,a6.next⟩,⟨3,1,M2.next,M2.next⟩]++M2.hide) a3.log),jE 23 b6,jE 25 a0,aR 29 (i64 x.f),aR 33 (i64 y.t),aR 37 (i64 x.m),aR 41 (i64 x.c),aR 45 (i64 y.c),jE 55 c1] 6=some (.ret,some (pt b1 0),c1,[.eq (cM prog 42 M) (1,.val (pt b1 0),M2),.q (.inb ia arcs.length) (eD true),qL 42 ab (ao+(ia:Int).toNat*7) (aB.mk M2.blks M2.next M2.hide []) (.agg ⟨(bM x)⟩),.q (.inb ib arcs.length) (eD true),qL 42 ab (ao+(ib:Int).toNat*7) (aB.mk M2.blks M2.next (aV 112 [⟨3,1,M2.next,M2.next⟩]++M2.hide) []) (.agg ⟨(bM y)⟩),qT (Nat.blt ab M2.next),.eq (cM prog 42 (aB.mk M2.blks M2.next (aV 0 [⟨3,1,M2.next,M2.next⟩]++M2.hide) [])) (1,.val (pt a7 0),a6),.eq (cM prog 42 (aB.mk a6.blks a6.next (aV 0 [⟨8,1,M2.next,a6.next⟩,⟨3,1,M2.next,M2.next⟩]++M2.hide) a6.log)) (1,.val (pt b0 0),(aB.mk a3.blks a3.next (aV 0 [⟨8,1,M2.next,a6.next⟩,⟨3,1,M2.next,M2.next⟩]++M2.hide) a3.log)),qS 42 a7 0 (.agg ⟨(bM x)⟩) (aB.mk (aB.mk a3.blks a3.next (aV 0 [⟨8,1,M2.next,a6.next⟩,⟨3,1,M2.next,M2.next⟩]++M2.hide) a3.log).blks (aB.mk a3.blks a3.next (aV 0 [⟨8,1,M2.next,a6.next⟩,⟨3,1,M2.next,M2.next⟩]++M2.hide) a3.log).next M2.hide (aB.mk a3.blks a3.next (aV 0 [⟨8,1,M2.next,a6.next⟩,⟨3,1,M2.next,M2.next⟩]++M2.hide) a3.log).log) b6,qS 42 b0 0 (.agg ⟨(bM y)⟩) (aB.mk b6.blks b6.next M2.hide b6.log) a0,qT (cZ [ab] a0.log),qL 3 a7 0 (aB.mk a0.blks a0.next M2.hide (a0.log++M2.log)) (i64 x.f),qL 3 b0 1 (aB.mk a0.blks a0.next M2.hide (a0.log++M2.log)) (i64 y.t),qL 3 a7 2 (aB.mk a0.blks a0.next M2.hide (a0.log++M2.log)) (i64 x.m),qL 3 a7 3 (aB.mk a0.blks a0.next M2.hide (a0.log++M2.log)) (i64 x.c),qL 3 b0 3 (aB.mk a0.blks a0.next M2.hide (a0.log++M2.log)) (i64 y.c),qS 42 b1 0 (.agg ⟨[i64 x.f,i64 y.t,i64 x.m,i64 (IntKind.wrap .i64 (x.c+y.c)),i64 (-1),i64 ia,i64 ib]⟩) (aB.mk a0.blks a0.next M2.hide (a0.log++M2.log)) c1]):=by kernel_rfl
 dsimp only at a1
 have i1:aB.mk M2.blks M2.next M2.hide []=c5:=a2.symm
 have i2:=Yj (k:=112) (l:=[⟨3,1,M2.next,M2.next⟩]) a2 (by simp [aV,Nat.beq_refl,a9,Lm,Ln])
 have i3:=Yj (k:=0) (l:=[⟨3,1,M2.next,M2.next⟩]) a2 (by simp [aV,Nat.beq_refl,a9,Lm,Ln])
 have i4:=pT ((X9).hide.trans (e7).hide.symm)
 have i5:=pT ((X9).hide.trans (e8).hide.symm)
 have i6:=Dr (L:=(a0.log++M2.log)) ((X9).hide.trans (e9).hide.symm)
 have i7:(aB.mk a0.blks a0.next a0.hide (a0.log++M2.log))=c4:=a5.symm
 try rw[i1] at a1
 try rw[i2] at a1
 try rw[i3] at a1
 try rw[i4] at a1
 try rw[i5] at a1
 try rw[i6] at a1
 try rw[i7] at a1
 exact⟨.agg ⟨[i64 x.f,i64 y.t,i64 x.m,i64 (IntKind.wrap .i64 (x.c+y.c)),i64 (-1),i64 ia,i64 ib]⟩,c1,Ev.told_cell aG aF Tryz.func91 aA5 (by kernel_rfl) rK91 (aI prog) (fun _ _=>rfl) a1 (mR (a:=⟨b1,0,none⟩) sN kG h3 rfl) (hk (bN (by rw[<-f0,<-g1];kernel_rfl) xAc) (hk (dE f6.1 f6.2) (hk (eO (aN c2 d4)) (hk (dE f7.1 f7.2) (hk (eO (aN c2 d5)) (hk (lG b5) (hk (bN (by rw[<-b4,<-b7];kernel_rfl) xAc) (hk (bN (by rw[<-a8,<-b8];kernel_rfl) xAc) (hk (dB h9) (hk (dB q50) (hk (eA (by rw[e0];simp<;>omega)) (hk (lC bQ c6 rfl) (hk (lC bQ f4 rfl) (hk (lC bQ c6 rfl) (hk (lC bQ c6 rfl) (hk (lC bQ f4 rfl) (hk (dB i0) hn))))))))))))))))),g0,d3,rfl⟩
abbrev Q91:=FC (gN (Vr dJ pI pI) fun x:List A7×Int×Int=>(0<=x.2.1/\x.2.1<(x.1.length:Int))/\(0<=x.2.2/\x.2.2<(x.1.length:Int))/\0<=(sJ x.1 x.2.1).c+(sJ x.1 x.2.2).c/\(sJ x.1 x.2.1).c+(sJ x.1 x.2.2).c<9223372036854775808) (plain Fo) (fun x=>mK (sJ x.1 x.2.1) (sJ x.1 x.2.2) x.2.1 x.2.2)
theorem con91{x:List A7×Int×Int}{lv:List Value}{M:aB}(hM:aA M)(h:(gN (Vr dJ pI pI) fun x:List A7×Int×Int=>(0<=x.2.1/\x.2.1<(x.1.length:Int))/\(0<=x.2.2/\x.2.2<(x.1.length:Int))/\0<=(sJ x.1 x.2.1).c+(sJ x.1 x.2.2).c/\(sJ x.1 x.2.1).c+(sJ x.1 x.2.2).c<9223372036854775808) x lv M): ∃v M',kR prog [] 91 Q91 lv M v M':=by
 refine FC.con h ?_
 obtain⟨⟨g0,g1,g2,rfl,hs,k1,k2⟩,h1,h2,h3⟩:=h
 obtain⟨arcs,ia,ib⟩:=x
 obtain rfl:=k1
 obtain rfl:=k2
 simp only at h1 h2 h3 hs
 obtain⟨a,c,rfl⟩:=aJ.form hs
 obtain⟨b,o,rfl,_⟩:=bU hs (by omega)
 have ta:arcs[ia.toNat]?=some arcs[ia.toNat]:=xAe (by omega)
 have tb:arcs[ib.toNat]?=some arcs[ib.toNat]:=xAe (by omega)
 have la:=kP (P:=prog) (ty:=42) hs ta sN kG
 have lb:=kP (P:=prog) (ty:=42) hs tb sN kG
 obtain⟨v,M',q1,q2,_,q3⟩:=w79 b o c arcs arcs[ia.toNat] arcs[ib.toNat] ia ib hM (jL hs (by omega)) h1 la h2 lb
 refine⟨v,M',q1,q2,?_⟩
 rw[qW ta,qW tb] at h3
 show Fo (mK (sJ arcs ia) (sJ arcs ib) ia ib) _ _
 rw[qW ta,qW tb]
 rw[yL (by omega) (by omega)] at q3
 exact q3
open Tryz
theorem Vv:(prog.underlying 76).map dV=some false:=by kernel_rfl
theorem Rf:Tryz.f55.results= #[.tmp 6]:=by kernel_rfl
theorem w48A0(B C K n:Nat)(cur:List Int)(a:A7)(num:Int)(y:List A7)(z:Int){M M0:aB}(hM:aA M)(X0:Ext M0 M)(gC:M.get C=some ⟨[i64 n,aC K 0 (n*n*5) (n*n*5+1),.func (.func 53) ⟨[pt B 0]⟩ ⟨[]⟩],79,3,0,true⟩)(gK:M.get K=some ⟨cur.map i64,3,1,0,true⟩)(nK:M0.next<=K)(dCK:C≠K)(hY:(Mw 56) y (pt B 0) (cI [(K,K+1)] M))(d8:cur.length=n*n*5)(a5:n<=60/\(0<=a.f/\a.f<(n:Int))/\(0<=a.t/\a.t<(n:Int))/\(0<=a.m/\a.m<5))(hz:z≠ -1->0<=z/\z<(y.length:Int))(a4:(z==(-1:Int))=true)(b0:0<=(dP (n:Int) a.f a.t a.m:Int)/\(dP (n:Int) a.f a.t a.m:Int)<(n*n*5))(d7:(cur.map i64)[0+(dP (n:Int) a.f a.t a.m:Int).toNat*1]?=some (i64 z))(b7:0+(dP (n:Int) a.f a.t a.m:Int).toNat*1+1<=(cur.map i64).length): ∃M',Ev prog [] 55 [pt C 0,.agg ⟨(bM a)⟩,i64 num] M (.bool true) M'/\Ext M0 M'/\aA M'/\M'.get K=some ⟨splice (cur.map i64) (0+(dP (n:Int) a.f a.t a.m:Int).toNat*1) [i64 num],3,1,0,true⟩/\(∀id k,M.get id=some k->id≠K->M'.get id=some k):=by
 obtain⟨b1,M2,c9,d0,g5,E6,d6⟩:=bC hM ⟨(bM a),42,7,0,true⟩
 have g9:=E6.old gC
 have c0:=E6.old gK
 have c4:=X0.trans E6
 obtain⟨Rm,e5,a0,e2,e0,c8,a8,b3,c3⟩:=aL (x:=((n,cur),a.f,a.t,a.m)) d6 Gh (⟨⟨_,_,_,_,rfl,⟨C,K,n*n*5+1,.func (.func 53) ⟨[pt B 0]⟩ ⟨[]⟩,rfl,(by rw[d8];exact g9),c0⟩,rfl,rfl,rfl⟩,a5⟩)
 have c1:=a8.old g9
 have c2:=a8.old c0
 have b2:Rm=i64 (dP (n:Int) a.f a.t a.m):=c3
 subst b2
 have b9:=c4.trans a8
 obtain⟨a1,a2⟩:=Jk a0 a0 []
 have c5:=Nk a2 b9
 have b4:=Jl a2 b3
 have d1:=cF a2 c1
 have d2:=cF a2 c2
 obtain⟨a9,a3⟩: ∃m:aB,m=(aB.mk a1.blks a1.next a1.hide (a1.log++a0.log)):=⟨_,rfl⟩
 have c6:Ext M0 a9:=by rw[a3];exact Ext.join (b9) (c5)
 have b5:aA a9:=by rw[a3];exact b4
 have d3:=cF a3 d1
 have d4:=cF a3 d2
 obtain⟨a7,q46,d5,b8,c7,b6,e1⟩:=aZ (o:=0+(dP (n:Int) a.f a.t a.m:Int).toNat*1) (v:=(i64 num)) (new:=splice (cur.map i64) (0+(dP (n:Int) a.f a.t a.m:Int).toNat*1) [i64 num]) c6 nK b5 Jj d4 rfl rfl (Nat.zero_le _) b7 rfl
 have a6:oT prog [] 60 Tryz.f55 Xf [pt C 0,.agg ⟨(bM a)⟩,i64 num] M [bJ 1 (pt b1 0) M2,aR 9 (i64 a.f),aR 13 (i64 a.t),aR 17 (i64 a.m),bJ 19 (i64 (dP (n:Int) a.f a.t a.m)) a0,aR 29 (aC K 0 (n*n*5) (n*n*5+1)),aQ 33,aR 35 (i64 z),aO 44,aO 46,aO 48,aO 50,aO 52,aO 54,aO 56,aO 58,aO 60,aO 63,aR 72 (aC K 0 (n*n*5) (n*n*5+1)),aQ 78,jE 80 a7] 6=some (.ret,some (.bool true),a7,[.eq (eI prog 42 (.agg ⟨(bM a)⟩) M) (1,.val (pt b1 0),M2),qL 3 b1 0 M2 (i64 a.f),qL 3 b1 1 M2 (i64 a.t),qL 3 b1 2 M2 (i64 a.m),qC 84 [pt C 0,i64 a.f,i64 a.t,i64 a.m] M2 (i64 (dP (n:Int) a.f a.t a.m)) a0,qL 22 C 1 a0 (aC K 0 (n*n*5) (n*n*5+1)),.q (.inb (dP (n:Int) a.f a.t a.m) (n*n*5)) (eD true),qL 3 K (0+(dP (n:Int) a.f a.t a.m:Int).toNat*1) a0 (i64 z),qF (!(z==(-1:Int))),qF (!(z==(-1:Int))),qF (!(z==(-1:Int))),qF (!(z==(-1:Int))),qF (!(z==(-1:Int))),qF (!(z==(-1:Int))),qF (!(z==(-1:Int))),qF (!(z==(-1:Int))),qF (!(z==(-1:Int))),qF (!(z==(-1:Int))),qT (cZ [] []),qL 22 C 1 (aB.mk a0.blks a0.next a0.hide ([]++a0.log)) (aC K 0 (n*n*5) (n*n*5+1)),.q (.inb (dP (n:Int) a.f a.t a.m) (n*n*5)) (eD true),qS 3 K (0+(dP (n:Int) a.f a.t a.m:Int).toNat*1) (i64 num) (aB.mk a0.blks a0.next a0.hide ([]++a0.log)) a7]):=by kernel_rfl
 have e3:(aB.mk a0.blks a0.next a0.hide ([]++a0.log))=(aB.mk a1.blks a1.next a1.hide (a1.log++a0.log)):=by rw[a2]
 have e4:(aB.mk a1.blks a1.next a1.hide (a1.log++a0.log))=a9:=a3.symm
 try rw[e3] at a6
 try rw[e4] at a6
 have d9: ∀id k,M.get id=some k->id≠K->a7.get id=some k:=fun id k g h_K=>by
  have g:=E6.old g
  have g:=a8.old g
  have g:a1.get id=some k:=by rw[a2];exact g
  have g:a9.get id=some k:=by rw[a3];exact g
  have g:=((fun id h _=>b8 id h) id h_K (aB.lt_of_get g)).trans g
  exact g
 exact⟨a7,Ev.told_tmp aG aF Tryz.func55 zO (by kernel_rfl) Rf (fun B=>lV (gH 84 Vn (gL _))) (fun _ _=>rfl) a6 (hk (bN (by rw[<-c9,<-d0];kernel_rfl) xAc) (hk (lC bQ g5 rfl) (hk (lC bQ g5 rfl) (hk (lC bQ g5 rfl) (hk (aK rfl e2 e0 c8) (hk (lC jW c1 rfl) (hk (dE b0.1 b0.2) (hk (eO (bI (a:=⟨K,0+(dP (n:Int) a.f a.t a.m:Int).toNat*1,none⟩) bQ c2 d7)) (hk (bF (by rw[a4];rfl)) (hk (bF (by rw[a4];rfl)) (hk (bF (by rw[a4];rfl)) (hk (bF (by rw[a4];rfl)) (hk (bF (by rw[a4];rfl)) (hk (bF (by rw[a4];rfl)) (hk (bF (by rw[a4];rfl)) (hk (bF (by rw[a4];rfl)) (hk (bF (by rw[a4];rfl)) (hk (bF (by rw[a4];rfl)) (hk (eA (by simp)) (hk (lC jW d3 rfl) (hk (dE b0.1 b0.2) (hk (dB q46) hn)))))))))))))))))))))),c7,b6,d5,d9⟩
theorem Pp(B C K n:Nat)(cur:List Int)(a:A7)(num:Int)(y:List A7)(z:Int){M M0:aB}(hM:aA M)(X0:Ext M0 M)(gC:M.get C=some ⟨[i64 n,aC K 0 (n*n*5) (n*n*5+1),.func (.func 53) ⟨[pt B 0]⟩ ⟨[]⟩],79,3,0,true⟩)(gK:M.get K=some ⟨cur.map i64,3,1,0,true⟩)(nK:M0.next<=K)(dCK:C≠K)(hY:(Mw 56) y (pt B 0) (cI [(K,K+1)] M))(g4:cur.length=n*n*5)(b5:n<=60/\(0<=a.f/\a.f<(n:Int))/\(0<=a.t/\a.t<(n:Int))/\(0<=a.m/\a.m<5))(hz:z≠ -1->0<=z/\z<(y.length:Int))(a5:(z==(-1:Int))=false): (∀(cc1:(decide ((cU y z)<=a.c))=true)(hi0:0<=(dP (n:Int) a.f a.t a.m:Int)/\(dP (n:Int) a.f a.t a.m:Int)<(n*n*5))(hc1:(cur.map i64)[0+(dP (n:Int) a.f a.t a.m:Int).toNat*1]?=some (i64 z)),∃M',Ev prog [] 55 [pt C 0,.agg ⟨(bM a)⟩,i64 num] M (.bool false) M'/\Ext M0 M'/\aA M'/\M'.get K=some ⟨cur.map i64,3,1,0,true⟩/\(∀id k,M.get id=some k->id≠K->M'.get id=some k))/\(∀(cc1:(decide ((cU y z)<=a.c))=false)(hi0:0<=(dP (n:Int) a.f a.t a.m:Int)/\(dP (n:Int) a.f a.t a.m:Int)<(n*n*5))(hc1:(cur.map i64)[0+(dP (n:Int) a.f a.t a.m:Int).toNat*1]?=some (i64 z))(hof2:0+(dP (n:Int) a.f a.t a.m:Int).toNat*1+1<=(cur.map i64).length),∃M',Ev prog [] 55 [pt C 0,.agg ⟨(bM a)⟩,i64 num] M (.bool true) M'/\Ext M0 M'/\aA M'/\M'.get K=some ⟨splice (cur.map i64) (0+(dP (n:Int) a.f a.t a.m:Int).toNat*1) [i64 num],3,1,0,true⟩/\(∀id k,M.get id=some k->id≠K->M'.get id=some k)):=by
 obtain⟨b1,M2,c3,e3,g5,E6,g3⟩:=bC hM ⟨(bM a),42,7,0,true⟩
 have F8:=jK (R:=(Mw 56)) hY c3 E6
 have g9:=E6.old gC
 have e4:=E6.old gK
 have f7:=X0.trans E6
 obtain⟨Rm,g7,a0,f0,e8,e2,a9,d1,f3⟩:=aL (x:=((n,cur),a.f,a.t,a.m)) g3 Gh (⟨⟨_,_,_,_,rfl,⟨C,K,n*n*5+1,.func (.func 53) ⟨[pt B 0]⟩ ⟨[]⟩,rfl,(by rw[g4];exact g9),e4⟩,rfl,rfl,rfl⟩,b5⟩)
 have f4:=fT (R:=(Mw 56)) F8 a9
 have c5:=a9.old g9
 have c6:=a9.old e4
 have e5:=a9.old g5
 have c4:Rm=i64 (dP (n:Int) a.f a.t a.m):=f3
 subst c4
 have b0:=f7.trans a9
 obtain⟨b7,a3⟩:=Jk a0 a0 []
 have e1:=Nk a3 b0
 have c0:b7.log= []:=by rw[a3]
 have d2:=Jl a3 d1
 have c7:=cF a3 c5
 have e6:=cF a3 c6
 have a6:=aB.lt_of_get e5
 have e7:=cF a3 e5
 have f6:=gJ (R:=(Mw 56)) (M':=b7) f4 (fun id b h=>by rw[a3];exact h)
 obtain⟨f2,g8,a1,f1,e9,c1,a8,b9,e0⟩:=aL (x:=(y,z)) d2 con53 (⟨⟨_,_,rfl,eF (R:=(Mw 56)) f6,rfl⟩,hz (by intro e;rw[e] at a5;cases a5)⟩)
 refine⟨?_,?_⟩
 ·intro cc1 hi0 hc1
  have c8:=a8.old e6
  have c9:=a8.old e7
  have b3:f2=i64 (cU y z):=e0
  subst b3
  have b6:a1.log= []:=by rw[<-c1];exact c0
  have b2:=e1.trans a8
  obtain⟨a7,a2⟩: ∃m:aB,m=(aB.mk a1.blks a1.next a1.hide (a1.log++a0.log)):=⟨_,rfl⟩
  have c2:Ext M0 a7:=by rw[a2];exact Ext.join (b0) (b2)
  have b4:aA a7:=by rw[a2];exact b9
  have d0:=cF a2 c8
  have a4:oT prog [] 60 Tryz.f55 Xf [pt C 0,.agg ⟨(bM a)⟩,i64 num] M [bJ 1 (pt b1 0) M2,aR 9 (i64 a.f),aR 13 (i64 a.t),aR 17 (i64 a.m),bJ 19 (i64 (dP (n:Int) a.f a.t a.m)) a0,aR 29 (aC K 0 (n*n*5) (n*n*5+1)),aQ 33,aR 35 (i64 z),aQ 44,aQ 46,aQ 48,aQ 50,aR 51 (.func (.func 53) ⟨[pt B 0]⟩ ⟨[]⟩),aQ 52,aQ 54,bJ 55 (i64 (cU y z)) a1,aQ 56,aQ 58,aR 59 (i64 a.c),aQ 60,aQ 63,aQ 64] 6=some (.ret,some (.bool false),aB.mk a1.blks a1.next a0.hide (a1.log++a0.log),[.eq (eI prog 42 (.agg ⟨(bM a)⟩) M) (1,.val (pt b1 0),M2),qL 3 b1 0 M2 (i64 a.f),qL 3 b1 1 M2 (i64 a.t),qL 3 b1 2 M2 (i64 a.m),qC 84 [pt C 0,i64 a.f,i64 a.t,i64 a.m] M2 (i64 (dP (n:Int) a.f a.t a.m)) a0,qL 22 C 1 a0 (aC K 0 (n*n*5) (n*n*5+1)),.q (.inb (dP (n:Int) a.f a.t a.m) (n*n*5)) (eD true),qL 3 K (0+(dP (n:Int) a.f a.t a.m:Int).toNat*1) a0 (i64 z),qT (!(z==(-1:Int))),qT (!(z==(-1:Int))),qT (!(z==(-1:Int))),qT (!(z==(-1:Int))),qL 76 C 2 (aB.mk a0.blks a0.next a0.hide []) (.func (.func 53) ⟨[pt B 0]⟩ ⟨[]⟩),qT (!(z==(-1:Int))),qT (!(z==(-1:Int))),qC 53 [pt B 0,i64 z] (aB.mk a0.blks a0.next a0.hide []) (i64 (cU y z)) a1,qT (!(z==(-1:Int))),qT (!(z==(-1:Int))),qL 3 b1 3 (aB.mk a1.blks a1.next (aV 519 [⟨8,1,a0.next,a1.next⟩,⟨6,1,a0.next,a0.next⟩]++a0.hide) a1.log) (i64 a.c),qT (Nat.blt b1 a0.next),qT (!(z==(-1:Int))),qT (!(z==(-1:Int))),qT (cZ [b1] a1.log),qT (decide ((cU y z)<=a.c))]):=by kernel_rfl
  have d6:aB.mk a0.blks a0.next a0.hide []=b7:=a3.symm
  have d7:=Gs 519 [⟨8,1,a0.next,a1.next⟩,⟨6,1,a0.next,a0.next⟩] ((b0).hide.trans (b2).hide.symm)
  have d8:=Dr (L:=(a1.log++a0.log)) ((b0).hide.trans (b2).hide.symm)
  have d9:(aB.mk a1.blks a1.next a1.hide (a1.log++a0.log))=a7:=a2.symm
  try rw[d6] at a4
  try rw[d7] at a4
  try rw[d8] at a4
  try rw[d9] at a4
  have d4: ∀id k,M.get id=some k->id≠K->a7.get id=some k:=fun id k g h_K=>by
   have g:=E6.old g
   have g:=a9.old g
   have g:b7.get id=some k:=by rw[a3];exact g
   have g:=a8.old g
   have g:a7.get id=some k:=by rw[a2];exact g
   exact g
  exact⟨a7,Ev.told_tmp aG aF Tryz.func55 zO (by kernel_rfl) Rf (fun B=>lV (gH 53 Q53 (gH 84 Vn (gL _)))) (fun _ _=>rfl) a4 (hk (bN (by rw[<-c3,<-e3];kernel_rfl) xAc) (hk (lC bQ g5 rfl) (hk (lC bQ g5 rfl) (hk (lC bQ g5 rfl) (hk (aK rfl f0 e8 e2) (hk (lC jW c5 rfl) (hk (dE hi0.1 hi0.2) (hk (eO (bI (a:=⟨K,0+(dP (n:Int) a.f a.t a.m:Int).toNat*1,none⟩) bQ c6 hc1)) (hk (bT (by rw[a5];rfl)) (hk (bT (by rw[a5];rfl)) (hk (bT (by rw[a5];rfl)) (hk (bT (by rw[a5];rfl)) (hk (lC Vv c7 rfl) (hk (bT (by rw[a5];rfl)) (hk (bT (by rw[a5];rfl)) (hk (aK rfl f1 e9 c1) (hk (bT (by rw[a5];rfl)) (hk (bT (by rw[a5];rfl)) (hk (lC bQ (bV.2 ⟨dC (by simp;omega),c9⟩) rfl) (hk (lG a6) (hk (bT (by rw[a5];rfl)) (hk (bT (by rw[a5];rfl)) (hk (eA (by rw[b6];simp<;>omega)) (hk (bT cc1) hn)))))))))))))))))))))))),c2,b4,d0,d4⟩
 ·intro cc1 hi0 hc1 hof2
  have g0:=a8.old c7
  have c8:=a8.old e6
  have c9:=a8.old e7
  have b3:f2=i64 (cU y z):=e0
  subst b3
  have b6:a1.log= []:=by rw[<-c1];exact c0
  have b2:=e1.trans a8
  obtain⟨a7,a2⟩: ∃m:aB,m=(aB.mk a1.blks a1.next a1.hide (a1.log++a0.log)):=⟨_,rfl⟩
  have c2:Ext M0 a7:=by rw[a2];exact Ext.join (b0) (b2)
  have b4:aA a7:=by rw[a2];exact b9
  have g1:=cF a2 g0
  have d0:=cF a2 c8
  obtain⟨b8,q62,g2,d5,f8,d3,g6⟩:=aZ (o:=0+(dP (n:Int) a.f a.t a.m:Int).toNat*1) (v:=(i64 num)) (new:=splice (cur.map i64) (0+(dP (n:Int) a.f a.t a.m:Int).toNat*1) [i64 num]) c2 nK b4 Jj d0 rfl rfl (Nat.zero_le _) hof2 rfl
  have a4:oT prog [] 60 Tryz.f55 Xf [pt C 0,.agg ⟨(bM a)⟩,i64 num] M [bJ 1 (pt b1 0) M2,aR 9 (i64 a.f),aR 13 (i64 a.t),aR 17 (i64 a.m),bJ 19 (i64 (dP (n:Int) a.f a.t a.m)) a0,aR 29 (aC K 0 (n*n*5) (n*n*5+1)),aQ 33,aR 35 (i64 z),aQ 44,aQ 46,aQ 48,aQ 50,aR 51 (.func (.func 53) ⟨[pt B 0]⟩ ⟨[]⟩),aQ 52,aQ 54,bJ 55 (i64 (cU y z)) a1,aQ 56,aQ 58,aR 59 (i64 a.c),aQ 60,aQ 63,aO 64,aR 72 (aC K 0 (n*n*5) (n*n*5+1)),aQ 78,jE 80 b8] 6=some (.ret,some (.bool true),b8,[.eq (eI prog 42 (.agg ⟨(bM a)⟩) M) (1,.val (pt b1 0),M2),qL 3 b1 0 M2 (i64 a.f),qL 3 b1 1 M2 (i64 a.t),qL 3 b1 2 M2 (i64 a.m),qC 84 [pt C 0,i64 a.f,i64 a.t,i64 a.m] M2 (i64 (dP (n:Int) a.f a.t a.m)) a0,qL 22 C 1 a0 (aC K 0 (n*n*5) (n*n*5+1)),.q (.inb (dP (n:Int) a.f a.t a.m) (n*n*5)) (eD true),qL 3 K (0+(dP (n:Int) a.f a.t a.m:Int).toNat*1) a0 (i64 z),qT (!(z==(-1:Int))),qT (!(z==(-1:Int))),qT (!(z==(-1:Int))),qT (!(z==(-1:Int))),qL 76 C 2 (aB.mk a0.blks a0.next a0.hide []) (.func (.func 53) ⟨[pt B 0]⟩ ⟨[]⟩),qT (!(z==(-1:Int))),qT (!(z==(-1:Int))),qC 53 [pt B 0,i64 z] (aB.mk a0.blks a0.next a0.hide []) (i64 (cU y z)) a1,qT (!(z==(-1:Int))),qT (!(z==(-1:Int))),qL 3 b1 3 (aB.mk a1.blks a1.next (aV 519 [⟨8,1,a0.next,a1.next⟩,⟨6,1,a0.next,a0.next⟩]++a0.hide) a1.log) (i64 a.c),qT (Nat.blt b1 a0.next),qT (!(z==(-1:Int))),qT (!(z==(-1:Int))),qT (cZ [b1] a1.log),qF (decide ((cU y z)<=a.c)),qL 22 C 1 (aB.mk a1.blks a1.next a0.hide (a1.log++a0.log)) (aC K 0 (n*n*5) (n*n*5+1)),.q (.inb (dP (n:Int) a.f a.t a.m) (n*n*5)) (eD true),qS 3 K (0+(dP (n:Int) a.f a.t a.m:Int).toNat*1) (i64 num) (aB.mk a1.blks a1.next a0.hide (a1.log++a0.log)) b8]):=by kernel_rfl
  have d6:aB.mk a0.blks a0.next a0.hide []=b7:=a3.symm
  have d7:=Gs 519 [⟨8,1,a0.next,a1.next⟩,⟨6,1,a0.next,a0.next⟩] ((b0).hide.trans (b2).hide.symm)
  have d8:=Dr (L:=(a1.log++a0.log)) ((b0).hide.trans (b2).hide.symm)
  have d9:(aB.mk a1.blks a1.next a1.hide (a1.log++a0.log))=a7:=a2.symm
  try rw[d6] at a4
  try rw[d7] at a4
  try rw[d8] at a4
  try rw[d9] at a4
  have d4: ∀id k,M.get id=some k->id≠K->b8.get id=some k:=fun id k g h_K=>by
   have g:=E6.old g
   have g:=a9.old g
   have g:b7.get id=some k:=by rw[a3];exact g
   have g:=a8.old g
   have g:a7.get id=some k:=by rw[a2];exact g
   have g:=((fun id h _=>d5 id h) id h_K (aB.lt_of_get g)).trans g
   exact g
  exact⟨b8,Ev.told_tmp aG aF Tryz.func55 zO (by kernel_rfl) Rf (fun B=>lV (gH 53 Q53 (gH 84 Vn (gL _)))) (fun _ _=>rfl) a4 (hk (bN (by rw[<-c3,<-e3];kernel_rfl) xAc) (hk (lC bQ g5 rfl) (hk (lC bQ g5 rfl) (hk (lC bQ g5 rfl) (hk (aK rfl f0 e8 e2) (hk (lC jW c5 rfl) (hk (dE hi0.1 hi0.2) (hk (eO (bI (a:=⟨K,0+(dP (n:Int) a.f a.t a.m:Int).toNat*1,none⟩) bQ c6 hc1)) (hk (bT (by rw[a5];rfl)) (hk (bT (by rw[a5];rfl)) (hk (bT (by rw[a5];rfl)) (hk (bT (by rw[a5];rfl)) (hk (lC Vv c7 rfl) (hk (bT (by rw[a5];rfl)) (hk (bT (by rw[a5];rfl)) (hk (aK rfl f1 e9 c1) (hk (bT (by rw[a5];rfl)) (hk (bT (by rw[a5];rfl)) (hk (lC bQ (bV.2 ⟨dC (by simp;omega),c9⟩) rfl) (hk (lG a6) (hk (bT (by rw[a5];rfl)) (hk (bT (by rw[a5];rfl)) (hk (eA (by rw[b6];simp<;>omega)) (hk (bF cc1) (hk (lC jW g1 rfl) (hk (dE hi0.1 hi0.2) (hk (dB q62) hn))))))))))))))))))))))))))),f8,d3,g2,d4⟩
theorem So{x:LX (List A7)}{lv:List Value}{M:aB}(hM:aA M)(h:(Qy 79 53 cU (Mw 56) (fun y i=>0<=i/\i<(y.length:Int))).A x lv M)(a8:x.K<=M.next): ∃v M',TO prog 55 (Qy 79 53 cU (Mw 56) (fun y i=>0<=i/\i<(y.length:Int))) lv M v M':=by
 have hA:=h
 obtain⟨C,K,B,n,cur,y,a,num⟩:=x
 obtain⟨rfl,gC,gK,hY,a3,hn,a1,hf,ht,hm,b0⟩:=h
 simp only at gC gK hY a3 hn a1 hf ht hm b0 a8
 have X0:=Ext.cut a8
 have nK:(cut K M).next<=K:=Nat.le_refl _
 have hp:=iP hf ht hm
 have a0:n<=60/\(0<=a.f/\a.f<(n:Int))/\(0<=a.t/\a.t<(n:Int))/\(0<=a.m/\a.m<5):=⟨hn,hf,ht,hm⟩
 have hz:aX cur (gO n a)≠ -1->0<=aX cur (gO n a)/\aX cur (gO n a)<(y.length:Int):=fun e=>b0.resolve_left e
 have a7:0<=((dP (n:Int) (a.f) (a.t) (a.m)):Int)/\((dP (n:Int) (a.f) (a.t) (a.m)):Int)<(n*n*5):=by refine⟨hp.1,?_⟩;have:=hp.2;push_cast at this⊢;exact this
 have hk:gO n a<cur.length:=by rw[a1];unfold gO;omega
 have a5:0+((dP (n:Int) (a.f) (a.t) (a.m)):Int).toNat*1=gO n a:=by unfold gO;omega
 have a6:(cur.map i64)[0+((dP (n:Int) (a.f) (a.t) (a.m)):Int).toNat*1]?=some (i64 (aX cur (gO n a))):=by rw[a5,List.getElem?_map,gI hk];rfl
 have a9:0+((dP (n:Int) (a.f) (a.t) (a.m)):Int).toNat*1+1<=(cur.map i64).length:=by rw[a5,List.length_map];omega
 have a2:splice (cur.map i64) (0+((dP (n:Int) (a.f) (a.t) (a.m)):Int).toNat*1) [i64 num]=(cur.set (gO n a) num).map i64:=by rw[a5,gM _ _ _ (by simpa using hk),List.map_set]
 have a4: ∀{bv:Bool} {cu:List Int} {M':aB},Ev prog [] 55 [pt C 0,.agg ⟨bM a⟩,i64 num] M (.bool bv) M'->Ext (cut K M) M'->M'.get K=some ⟨cu.map i64,3,1,0,true⟩->(∀id k,M.get id=some k->id≠K->M'.get id=some k)->bv=dM (cU y) (aX cur (gO n a)) a.c->cu=iO cU ⟨C,K,B,n,cur,y,a,num⟩-> ∃v M',TO prog 55 (Qy 79 53 cU (Mw 56) (fun y i=>0<=i/\i<(y.length:Int))) [pt C 0,.agg ⟨bM a⟩,i64 num] M v M':=
  fun h1 h2 h3 h4 e1 e2=>⟨_,_,h1,⟨C,K,B,n,cur,y,a,num⟩,hA,a8,h2,h4,by rw[e1],by rw[<-e2];exact h3⟩
 cases c0:aX cur (gO n a)==(-1:Int) with
 |true=>
  obtain⟨M',h1,h2,h3,h4,h5⟩:=w48A0 B C K n cur a num y (aX cur (gO n a)) hM X0 gC gK nK a3 hY a1 a0 hz c0 a7 a6 a9
  rw[a2] at h4
  exact a4 h1 h2 h4 h5 (by simp [dM,c0]) (by simp [iO,dM,c0])
 |false=>
  cases c1:decide (cU y (aX cur (gO n a))<=a.c) with
  |true=>
   obtain⟨M',h1,h2,h3,h4,h5⟩:=(Pp B C K n cur a num y (aX cur (gO n a)) hM X0 gC gK nK a3 hY a1 a0 hz c0).1 c1 a7 a6
   have e:dM (cU y) (aX cur (gO n a)) a.c=false:=by simp only [dM,c0,Bool.false_or];exact xAa (by have:=of_decide_eq_true c1;omega)
   exact a4 h1 h2 h4 h5 e.symm (by simp [iO,e])
  |false=>
   obtain⟨M',h1,h2,h3,h4,h5⟩:=(Pp B C K n cur a num y (aX cur (gO n a)) hM X0 gC gK nK a3 hY a1 a0 hz c0).2 c1 a7 a6 a9
   rw[a2] at h4
   have e:dM (cU y) (aX cur (gO n a)) a.c=true:=by simp only [dM,c0,Bool.false_or];exact xAb (by have:=of_decide_eq_false c1;omega)
   exact a4 h1 h2 h4 h5 e.symm (by simp [iO,e])
theorem w48E0(B C K n:Nat)(cur:List Int)(a:A7)(num:Int)(y:List E4)(z:Int){M M0:aB}(hM:aA M)(X0:Ext M0 M)(gC:M.get C=some ⟨[i64 n,aC K 0 (n*n*5) (n*n*5+1),.func (.func 54) ⟨[pt B 0]⟩ ⟨[]⟩],79,3,0,true⟩)(gK:M.get K=some ⟨cur.map i64,3,1,0,true⟩)(nK:M0.next<=K)(dCK:C≠K)(hY:(Iw 56) y (pt B 0) (cI [(K,K+1)] M))(d8:cur.length=n*n*5)(a5:n<=60/\(0<=a.f/\a.f<(n:Int))/\(0<=a.t/\a.t<(n:Int))/\(0<=a.m/\a.m<5))(hz:z≠ -1->0<=z/\z<(y.length:Int))(a4:(z==(-1:Int))=true)(b0:0<=(dP (n:Int) a.f a.t a.m:Int)/\(dP (n:Int) a.f a.t a.m:Int)<(n*n*5))(d7:(cur.map i64)[0+(dP (n:Int) a.f a.t a.m:Int).toNat*1]?=some (i64 z))(b7:0+(dP (n:Int) a.f a.t a.m:Int).toNat*1+1<=(cur.map i64).length): ∃M',Ev prog [] 55 [pt C 0,.agg ⟨(bM a)⟩,i64 num] M (.bool true) M'/\Ext M0 M'/\aA M'/\M'.get K=some ⟨splice (cur.map i64) (0+(dP (n:Int) a.f a.t a.m:Int).toNat*1) [i64 num],3,1,0,true⟩/\(∀id k,M.get id=some k->id≠K->M'.get id=some k):=by
 obtain⟨b1,M2,c9,d0,g5,E6,d6⟩:=bC hM ⟨(bM a),42,7,0,true⟩
 have g9:=E6.old gC
 have c0:=E6.old gK
 have c4:=X0.trans E6
 obtain⟨Rm,e5,a0,e2,e0,c8,a8,b3,c3⟩:=aL (x:=((n,cur),a.f,a.t,a.m)) d6 Gh (⟨⟨_,_,_,_,rfl,⟨C,K,n*n*5+1,.func (.func 54) ⟨[pt B 0]⟩ ⟨[]⟩,rfl,(by rw[d8];exact g9),c0⟩,rfl,rfl,rfl⟩,a5⟩)
 have c1:=a8.old g9
 have c2:=a8.old c0
 have b2:Rm=i64 (dP (n:Int) a.f a.t a.m):=c3
 subst b2
 have b9:=c4.trans a8
 obtain⟨a1,a2⟩:=Jk a0 a0 []
 have c5:=Nk a2 b9
 have b4:=Jl a2 b3
 have d1:=cF a2 c1
 have d2:=cF a2 c2
 obtain⟨a9,a3⟩: ∃m:aB,m=(aB.mk a1.blks a1.next a1.hide (a1.log++a0.log)):=⟨_,rfl⟩
 have c6:Ext M0 a9:=by rw[a3];exact Ext.join (b9) (c5)
 have b5:aA a9:=by rw[a3];exact b4
 have d3:=cF a3 d1
 have d4:=cF a3 d2
 obtain⟨a7,q46,d5,b8,c7,b6,e1⟩:=aZ (o:=0+(dP (n:Int) a.f a.t a.m:Int).toNat*1) (v:=(i64 num)) (new:=splice (cur.map i64) (0+(dP (n:Int) a.f a.t a.m:Int).toNat*1) [i64 num]) c6 nK b5 Jj d4 rfl rfl (Nat.zero_le _) b7 rfl
 have a6:oT prog [] 60 Tryz.f55 Xf [pt C 0,.agg ⟨(bM a)⟩,i64 num] M [bJ 1 (pt b1 0) M2,aR 9 (i64 a.f),aR 13 (i64 a.t),aR 17 (i64 a.m),bJ 19 (i64 (dP (n:Int) a.f a.t a.m)) a0,aR 29 (aC K 0 (n*n*5) (n*n*5+1)),aQ 33,aR 35 (i64 z),aO 44,aO 46,aO 48,aO 50,aO 52,aO 54,aO 56,aO 58,aO 60,aO 63,aR 72 (aC K 0 (n*n*5) (n*n*5+1)),aQ 78,jE 80 a7] 6=some (.ret,some (.bool true),a7,[.eq (eI prog 42 (.agg ⟨(bM a)⟩) M) (1,.val (pt b1 0),M2),qL 3 b1 0 M2 (i64 a.f),qL 3 b1 1 M2 (i64 a.t),qL 3 b1 2 M2 (i64 a.m),qC 84 [pt C 0,i64 a.f,i64 a.t,i64 a.m] M2 (i64 (dP (n:Int) a.f a.t a.m)) a0,qL 22 C 1 a0 (aC K 0 (n*n*5) (n*n*5+1)),.q (.inb (dP (n:Int) a.f a.t a.m) (n*n*5)) (eD true),qL 3 K (0+(dP (n:Int) a.f a.t a.m:Int).toNat*1) a0 (i64 z),qF (!(z==(-1:Int))),qF (!(z==(-1:Int))),qF (!(z==(-1:Int))),qF (!(z==(-1:Int))),qF (!(z==(-1:Int))),qF (!(z==(-1:Int))),qF (!(z==(-1:Int))),qF (!(z==(-1:Int))),qF (!(z==(-1:Int))),qF (!(z==(-1:Int))),qT (cZ [] []),qL 22 C 1 (aB.mk a0.blks a0.next a0.hide ([]++a0.log)) (aC K 0 (n*n*5) (n*n*5+1)),.q (.inb (dP (n:Int) a.f a.t a.m) (n*n*5)) (eD true),qS 3 K (0+(dP (n:Int) a.f a.t a.m:Int).toNat*1) (i64 num) (aB.mk a0.blks a0.next a0.hide ([]++a0.log)) a7]):=by kernel_rfl
 have e3:(aB.mk a0.blks a0.next a0.hide ([]++a0.log))=(aB.mk a1.blks a1.next a1.hide (a1.log++a0.log)):=by rw[a2]
 have e4:(aB.mk a1.blks a1.next a1.hide (a1.log++a0.log))=a9:=a3.symm
 try rw[e3] at a6
 try rw[e4] at a6
 have d9: ∀id k,M.get id=some k->id≠K->a7.get id=some k:=fun id k g h_K=>by
  have g:=E6.old g
  have g:=a8.old g
  have g:a1.get id=some k:=by rw[a2];exact g
  have g:a9.get id=some k:=by rw[a3];exact g
  have g:=((fun id h _=>b8 id h) id h_K (aB.lt_of_get g)).trans g
  exact g
 exact⟨a7,Ev.told_tmp aG aF Tryz.func55 zO (by kernel_rfl) Rf (fun B=>lV (gH 84 Vn (gL _))) (fun _ _=>rfl) a6 (hk (bN (by rw[<-c9,<-d0];kernel_rfl) xAc) (hk (lC bQ g5 rfl) (hk (lC bQ g5 rfl) (hk (lC bQ g5 rfl) (hk (aK rfl e2 e0 c8) (hk (lC jW c1 rfl) (hk (dE b0.1 b0.2) (hk (eO (bI (a:=⟨K,0+(dP (n:Int) a.f a.t a.m:Int).toNat*1,none⟩) bQ c2 d7)) (hk (bF (by rw[a4];rfl)) (hk (bF (by rw[a4];rfl)) (hk (bF (by rw[a4];rfl)) (hk (bF (by rw[a4];rfl)) (hk (bF (by rw[a4];rfl)) (hk (bF (by rw[a4];rfl)) (hk (bF (by rw[a4];rfl)) (hk (bF (by rw[a4];rfl)) (hk (bF (by rw[a4];rfl)) (hk (bF (by rw[a4];rfl)) (hk (eA (by simp)) (hk (lC jW d3 rfl) (hk (dE b0.1 b0.2) (hk (dB q46) hn)))))))))))))))))))))),c7,b6,d5,d9⟩
theorem Pq(B C K n:Nat)(cur:List Int)(a:A7)(num:Int)(y:List E4)(z:Int){M M0:aB}(hM:aA M)(X0:Ext M0 M)(gC:M.get C=some ⟨[i64 n,aC K 0 (n*n*5) (n*n*5+1),.func (.func 54) ⟨[pt B 0]⟩ ⟨[]⟩],79,3,0,true⟩)(gK:M.get K=some ⟨cur.map i64,3,1,0,true⟩)(nK:M0.next<=K)(dCK:C≠K)(hY:(Iw 56) y (pt B 0) (cI [(K,K+1)] M))(g4:cur.length=n*n*5)(b5:n<=60/\(0<=a.f/\a.f<(n:Int))/\(0<=a.t/\a.t<(n:Int))/\(0<=a.m/\a.m<5))(hz:z≠ -1->0<=z/\z<(y.length:Int))(a5:(z==(-1:Int))=false): (∀(cc1:(decide ((dS y z)<=a.c))=true)(hi0:0<=(dP (n:Int) a.f a.t a.m:Int)/\(dP (n:Int) a.f a.t a.m:Int)<(n*n*5))(hc1:(cur.map i64)[0+(dP (n:Int) a.f a.t a.m:Int).toNat*1]?=some (i64 z)),∃M',Ev prog [] 55 [pt C 0,.agg ⟨(bM a)⟩,i64 num] M (.bool false) M'/\Ext M0 M'/\aA M'/\M'.get K=some ⟨cur.map i64,3,1,0,true⟩/\(∀id k,M.get id=some k->id≠K->M'.get id=some k))/\(∀(cc1:(decide ((dS y z)<=a.c))=false)(hi0:0<=(dP (n:Int) a.f a.t a.m:Int)/\(dP (n:Int) a.f a.t a.m:Int)<(n*n*5))(hc1:(cur.map i64)[0+(dP (n:Int) a.f a.t a.m:Int).toNat*1]?=some (i64 z))(hof2:0+(dP (n:Int) a.f a.t a.m:Int).toNat*1+1<=(cur.map i64).length),∃M',Ev prog [] 55 [pt C 0,.agg ⟨(bM a)⟩,i64 num] M (.bool true) M'/\Ext M0 M'/\aA M'/\M'.get K=some ⟨splice (cur.map i64) (0+(dP (n:Int) a.f a.t a.m:Int).toNat*1) [i64 num],3,1,0,true⟩/\(∀id k,M.get id=some k->id≠K->M'.get id=some k)):=by
 obtain⟨b1,M2,c3,e3,g5,E6,g3⟩:=bC hM ⟨(bM a),42,7,0,true⟩
 have F8:=jK (R:=(Iw 56)) hY c3 E6
 have g9:=E6.old gC
 have e4:=E6.old gK
 have f7:=X0.trans E6
 obtain⟨Rm,g7,a0,f0,e8,e2,a9,d1,f3⟩:=aL (x:=((n,cur),a.f,a.t,a.m)) g3 Gh (⟨⟨_,_,_,_,rfl,⟨C,K,n*n*5+1,.func (.func 54) ⟨[pt B 0]⟩ ⟨[]⟩,rfl,(by rw[g4];exact g9),e4⟩,rfl,rfl,rfl⟩,b5⟩)
 have f4:=fT (R:=(Iw 56)) F8 a9
 have c5:=a9.old g9
 have c6:=a9.old e4
 have e5:=a9.old g5
 have c4:Rm=i64 (dP (n:Int) a.f a.t a.m):=f3
 subst c4
 have b0:=f7.trans a9
 obtain⟨b7,a3⟩:=Jk a0 a0 []
 have e1:=Nk a3 b0
 have c0:b7.log= []:=by rw[a3]
 have d2:=Jl a3 d1
 have c7:=cF a3 c5
 have e6:=cF a3 c6
 have a6:=aB.lt_of_get e5
 have e7:=cF a3 e5
 have f6:=gJ (R:=(Iw 56)) (M':=b7) f4 (fun id b h=>by rw[a3];exact h)
 obtain⟨f2,g8,a1,f1,e9,c1,a8,b9,e0⟩:=aL (x:=(y,z)) d2 con54 (⟨⟨_,_,rfl,eF (R:=(Iw 56)) f6,rfl⟩,hz (by intro e;rw[e] at a5;cases a5)⟩)
 refine⟨?_,?_⟩
 ·intro cc1 hi0 hc1
  have c8:=a8.old e6
  have c9:=a8.old e7
  have b3:f2=i64 (dS y z):=e0
  subst b3
  have b6:a1.log= []:=by rw[<-c1];exact c0
  have b2:=e1.trans a8
  obtain⟨a7,a2⟩: ∃m:aB,m=(aB.mk a1.blks a1.next a1.hide (a1.log++a0.log)):=⟨_,rfl⟩
  have c2:Ext M0 a7:=by rw[a2];exact Ext.join (b0) (b2)
  have b4:aA a7:=by rw[a2];exact b9
  have d0:=cF a2 c8
  have a4:oT prog [] 60 Tryz.f55 Xf [pt C 0,.agg ⟨(bM a)⟩,i64 num] M [bJ 1 (pt b1 0) M2,aR 9 (i64 a.f),aR 13 (i64 a.t),aR 17 (i64 a.m),bJ 19 (i64 (dP (n:Int) a.f a.t a.m)) a0,aR 29 (aC K 0 (n*n*5) (n*n*5+1)),aQ 33,aR 35 (i64 z),aQ 44,aQ 46,aQ 48,aQ 50,aR 51 (.func (.func 54) ⟨[pt B 0]⟩ ⟨[]⟩),aQ 52,aQ 54,bJ 55 (i64 (dS y z)) a1,aQ 56,aQ 58,aR 59 (i64 a.c),aQ 60,aQ 63,aQ 64] 6=some (.ret,some (.bool false),aB.mk a1.blks a1.next a0.hide (a1.log++a0.log),[.eq (eI prog 42 (.agg ⟨(bM a)⟩) M) (1,.val (pt b1 0),M2),qL 3 b1 0 M2 (i64 a.f),qL 3 b1 1 M2 (i64 a.t),qL 3 b1 2 M2 (i64 a.m),qC 84 [pt C 0,i64 a.f,i64 a.t,i64 a.m] M2 (i64 (dP (n:Int) a.f a.t a.m)) a0,qL 22 C 1 a0 (aC K 0 (n*n*5) (n*n*5+1)),.q (.inb (dP (n:Int) a.f a.t a.m) (n*n*5)) (eD true),qL 3 K (0+(dP (n:Int) a.f a.t a.m:Int).toNat*1) a0 (i64 z),qT (!(z==(-1:Int))),qT (!(z==(-1:Int))),qT (!(z==(-1:Int))),qT (!(z==(-1:Int))),qL 76 C 2 (aB.mk a0.blks a0.next a0.hide []) (.func (.func 54) ⟨[pt B 0]⟩ ⟨[]⟩),qT (!(z==(-1:Int))),qT (!(z==(-1:Int))),qC 54 [pt B 0,i64 z] (aB.mk a0.blks a0.next a0.hide []) (i64 (dS y z)) a1,qT (!(z==(-1:Int))),qT (!(z==(-1:Int))),qL 3 b1 3 (aB.mk a1.blks a1.next (aV 519 [⟨8,1,a0.next,a1.next⟩,⟨6,1,a0.next,a0.next⟩]++a0.hide) a1.log) (i64 a.c),qT (Nat.blt b1 a0.next),qT (!(z==(-1:Int))),qT (!(z==(-1:Int))),qT (cZ [b1] a1.log),qT (decide ((dS y z)<=a.c))]):=by kernel_rfl
  have d6:aB.mk a0.blks a0.next a0.hide []=b7:=a3.symm
  have d7:=Gs 519 [⟨8,1,a0.next,a1.next⟩,⟨6,1,a0.next,a0.next⟩] ((b0).hide.trans (b2).hide.symm)
  have d8:=Dr (L:=(a1.log++a0.log)) ((b0).hide.trans (b2).hide.symm)
  have d9:(aB.mk a1.blks a1.next a1.hide (a1.log++a0.log))=a7:=a2.symm
  try rw[d6] at a4
  try rw[d7] at a4
  try rw[d8] at a4
  try rw[d9] at a4
  have d4: ∀id k,M.get id=some k->id≠K->a7.get id=some k:=fun id k g h_K=>by
   have g:=E6.old g
   have g:=a9.old g
   have g:b7.get id=some k:=by rw[a3];exact g
   have g:=a8.old g
   have g:a7.get id=some k:=by rw[a2];exact g
   exact g
  exact⟨a7,Ev.told_tmp aG aF Tryz.func55 zO (by kernel_rfl) Rf (fun B=>lV (gH 54 Q54 (gH 84 Vn (gL _)))) (fun _ _=>rfl) a4 (hk (bN (by rw[<-c3,<-e3];kernel_rfl) xAc) (hk (lC bQ g5 rfl) (hk (lC bQ g5 rfl) (hk (lC bQ g5 rfl) (hk (aK rfl f0 e8 e2) (hk (lC jW c5 rfl) (hk (dE hi0.1 hi0.2) (hk (eO (bI (a:=⟨K,0+(dP (n:Int) a.f a.t a.m:Int).toNat*1,none⟩) bQ c6 hc1)) (hk (bT (by rw[a5];rfl)) (hk (bT (by rw[a5];rfl)) (hk (bT (by rw[a5];rfl)) (hk (bT (by rw[a5];rfl)) (hk (lC Vv c7 rfl) (hk (bT (by rw[a5];rfl)) (hk (bT (by rw[a5];rfl)) (hk (aK rfl f1 e9 c1) (hk (bT (by rw[a5];rfl)) (hk (bT (by rw[a5];rfl)) (hk (lC bQ (bV.2 ⟨dC (by simp;omega),c9⟩) rfl) (hk (lG a6) (hk (bT (by rw[a5];rfl)) (hk (bT (by rw[a5];rfl)) (hk (eA (by rw[b6];simp<;>omega)) (hk (bT cc1) hn)))))))))))))))))))))))),c2,b4,d0,d4⟩
 ·intro cc1 hi0 hc1 hof2
  have g0:=a8.old c7
  have c8:=a8.old e6
  have c9:=a8.old e7
  have b3:f2=i64 (dS y z):=e0
  subst b3
  have b6:a1.log= []:=by rw[<-c1];exact c0
  have b2:=e1.trans a8
  obtain⟨a7,a2⟩: ∃m:aB,m=(aB.mk a1.blks a1.next a1.hide (a1.log++a0.log)):=⟨_,rfl⟩
  have c2:Ext M0 a7:=by rw[a2];exact Ext.join (b0) (b2)
  have b4:aA a7:=by rw[a2];exact b9
  have g1:=cF a2 g0
  have d0:=cF a2 c8
  obtain⟨b8,q62,g2,d5,f8,d3,g6⟩:=aZ (o:=0+(dP (n:Int) a.f a.t a.m:Int).toNat*1) (v:=(i64 num)) (new:=splice (cur.map i64) (0+(dP (n:Int) a.f a.t a.m:Int).toNat*1) [i64 num]) c2 nK b4 Jj d0 rfl rfl (Nat.zero_le _) hof2 rfl
  have a4:oT prog [] 60 Tryz.f55 Xf [pt C 0,.agg ⟨(bM a)⟩,i64 num] M [bJ 1 (pt b1 0) M2,aR 9 (i64 a.f),aR 13 (i64 a.t),aR 17 (i64 a.m),bJ 19 (i64 (dP (n:Int) a.f a.t a.m)) a0,aR 29 (aC K 0 (n*n*5) (n*n*5+1)),aQ 33,aR 35 (i64 z),aQ 44,aQ 46,aQ 48,aQ 50,aR 51 (.func (.func 54) ⟨[pt B 0]⟩ ⟨[]⟩),aQ 52,aQ 54,bJ 55 (i64 (dS y z)) a1,aQ 56,aQ 58,aR 59 (i64 a.c),aQ 60,aQ 63,aO 64,aR 72 (aC K 0 (n*n*5) (n*n*5+1)),aQ 78,jE 80 b8] 6=some (.ret,some (.bool true),b8,[.eq (eI prog 42 (.agg ⟨(bM a)⟩) M) (1,.val (pt b1 0),M2),qL 3 b1 0 M2 (i64 a.f),qL 3 b1 1 M2 (i64 a.t),qL 3 b1 2 M2 (i64 a.m),qC 84 [pt C 0,i64 a.f,i64 a.t,i64 a.m] M2 (i64 (dP (n:Int) a.f a.t a.m)) a0,qL 22 C 1 a0 (aC K 0 (n*n*5) (n*n*5+1)),.q (.inb (dP (n:Int) a.f a.t a.m) (n*n*5)) (eD true),qL 3 K (0+(dP (n:Int) a.f a.t a.m:Int).toNat*1) a0 (i64 z),qT (!(z==(-1:Int))),qT (!(z==(-1:Int))),qT (!(z==(-1:Int))),qT (!(z==(-1:Int))),qL 76 C 2 (aB.mk a0.blks a0.next a0.hide []) (.func (.func 54) ⟨[pt B 0]⟩ ⟨[]⟩),qT (!(z==(-1:Int))),qT (!(z==(-1:Int))),qC 54 [pt B 0,i64 z] (aB.mk a0.blks a0.next a0.hide []) (i64 (dS y z)) a1,qT (!(z==(-1:Int))),qT (!(z==(-1:Int))),qL 3 b1 3 (aB.mk a1.blks a1.next (aV 519 [⟨8,1,a0.next,a1.next⟩,⟨6,1,a0.next,a0.next⟩]++a0.hide) a1.log) (i64 a.c),qT (Nat.blt b1 a0.next),qT (!(z==(-1:Int))),qT (!(z==(-1:Int))),qT (cZ [b1] a1.log),qF (decide ((dS y z)<=a.c)),qL 22 C 1 (aB.mk a1.blks a1.next a0.hide (a1.log++a0.log)) (aC K 0 (n*n*5) (n*n*5+1)),.q (.inb (dP (n:Int) a.f a.t a.m) (n*n*5)) (eD true),qS 3 K (0+(dP (n:Int) a.f a.t a.m:Int).toNat*1) (i64 num) (aB.mk a1.blks a1.next a0.hide (a1.log++a0.log)) b8]):=by kernel_rfl
  have d6:aB.mk a0.blks a0.next a0.hide []=b7:=a3.symm
  have d7:=Gs 519 [⟨8,1,a0.next,a1.next⟩,⟨6,1,a0.next,a0.next⟩] ((b0).hide.trans (b2).hide.symm)
  have d8:=Dr (L:=(a1.log++a0.log)) ((b0).hide.trans (b2).hide.symm)
  have d9:(aB.mk a1.blks a1.next a1.hide (a1.log++a0.log))=a7:=a2.symm
  try rw[d6] at a4
  try rw[d7] at a4
  try rw[d8] at a4
  try rw[d9] at a4
  have d4: ∀id k,M.get id=some k->id≠K->b8.get id=some k:=fun id k g h_K=>by
   have g:=E6.old g
   have g:=a9.old g
   have g:b7.get id=some k:=by rw[a3];exact g
   have g:=a8.old g
   have g:a7.get id=some k:=by rw[a2];exact g
   have g:=((fun id h _=>d5 id h) id h_K (aB.lt_of_get g)).trans g
   exact g
  exact⟨b8,Ev.told_tmp aG aF Tryz.func55 zO (by kernel_rfl) Rf (fun B=>lV (gH 54 Q54 (gH 84 Vn (gL _)))) (fun _ _=>rfl) a4 (hk (bN (by rw[<-c3,<-e3];kernel_rfl) xAc) (hk (lC bQ g5 rfl) (hk (lC bQ g5 rfl) (hk (lC bQ g5 rfl) (hk (aK rfl f0 e8 e2) (hk (lC jW c5 rfl) (hk (dE hi0.1 hi0.2) (hk (eO (bI (a:=⟨K,0+(dP (n:Int) a.f a.t a.m:Int).toNat*1,none⟩) bQ c6 hc1)) (hk (bT (by rw[a5];rfl)) (hk (bT (by rw[a5];rfl)) (hk (bT (by rw[a5];rfl)) (hk (bT (by rw[a5];rfl)) (hk (lC Vv c7 rfl) (hk (bT (by rw[a5];rfl)) (hk (bT (by rw[a5];rfl)) (hk (aK rfl f1 e9 c1) (hk (bT (by rw[a5];rfl)) (hk (bT (by rw[a5];rfl)) (hk (lC bQ (bV.2 ⟨dC (by simp;omega),c9⟩) rfl) (hk (lG a6) (hk (bT (by rw[a5];rfl)) (hk (bT (by rw[a5];rfl)) (hk (eA (by rw[b6];simp<;>omega)) (hk (bF cc1) (hk (lC jW g1 rfl) (hk (dE hi0.1 hi0.2) (hk (dB q62) hn))))))))))))))))))))))))))),f8,d3,g2,d4⟩
theorem Zh{x:LX (List E4)}{lv:List Value}{M:aB}(hM:aA M)(h:(Qy 79 54 dS (Iw 56) (fun y i=>0<=i/\i<(y.length:Int))).A x lv M)(a8:x.K<=M.next): ∃v M',TO prog 55 (Qy 79 54 dS (Iw 56) (fun y i=>0<=i/\i<(y.length:Int))) lv M v M':=by
 have hA:=h
 obtain⟨C,K,B,n,cur,y,a,num⟩:=x
 obtain⟨rfl,gC,gK,hY,a3,hn,a1,hf,ht,hm,b0⟩:=h
 simp only at gC gK hY a3 hn a1 hf ht hm b0 a8
 have X0:=Ext.cut a8
 have nK:(cut K M).next<=K:=Nat.le_refl _
 have hp:=iP hf ht hm
 have a0:n<=60/\(0<=a.f/\a.f<(n:Int))/\(0<=a.t/\a.t<(n:Int))/\(0<=a.m/\a.m<5):=⟨hn,hf,ht,hm⟩
 have hz:aX cur (gO n a)≠ -1->0<=aX cur (gO n a)/\aX cur (gO n a)<(y.length:Int):=fun e=>b0.resolve_left e
 have a7:0<=((dP (n:Int) (a.f) (a.t) (a.m)):Int)/\((dP (n:Int) (a.f) (a.t) (a.m)):Int)<(n*n*5):=by refine⟨hp.1,?_⟩;have:=hp.2;push_cast at this⊢;exact this
 have hk:gO n a<cur.length:=by rw[a1];unfold gO;omega
 have a5:0+((dP (n:Int) (a.f) (a.t) (a.m)):Int).toNat*1=gO n a:=by unfold gO;omega
 have a6:(cur.map i64)[0+((dP (n:Int) (a.f) (a.t) (a.m)):Int).toNat*1]?=some (i64 (aX cur (gO n a))):=by rw[a5,List.getElem?_map,gI hk];rfl
 have a9:0+((dP (n:Int) (a.f) (a.t) (a.m)):Int).toNat*1+1<=(cur.map i64).length:=by rw[a5,List.length_map];omega
 have a2:splice (cur.map i64) (0+((dP (n:Int) (a.f) (a.t) (a.m)):Int).toNat*1) [i64 num]=(cur.set (gO n a) num).map i64:=by rw[a5,gM _ _ _ (by simpa using hk),List.map_set]
 have a4: ∀{bv:Bool} {cu:List Int} {M':aB},Ev prog [] 55 [pt C 0,.agg ⟨bM a⟩,i64 num] M (.bool bv) M'->Ext (cut K M) M'->M'.get K=some ⟨cu.map i64,3,1,0,true⟩->(∀id k,M.get id=some k->id≠K->M'.get id=some k)->bv=dM (dS y) (aX cur (gO n a)) a.c->cu=iO dS ⟨C,K,B,n,cur,y,a,num⟩-> ∃v M',TO prog 55 (Qy 79 54 dS (Iw 56) (fun y i=>0<=i/\i<(y.length:Int))) [pt C 0,.agg ⟨bM a⟩,i64 num] M v M':=
  fun h1 h2 h3 h4 e1 e2=>⟨_,_,h1,⟨C,K,B,n,cur,y,a,num⟩,hA,a8,h2,h4,by rw[e1],by rw[<-e2];exact h3⟩
 cases c0:aX cur (gO n a)==(-1:Int) with
 |true=>
  obtain⟨M',h1,h2,h3,h4,h5⟩:=w48E0 B C K n cur a num y (aX cur (gO n a)) hM X0 gC gK nK a3 hY a1 a0 hz c0 a7 a6 a9
  rw[a2] at h4
  exact a4 h1 h2 h4 h5 (by simp [dM,c0]) (by simp [iO,dM,c0])
 |false=>
  cases c1:decide (dS y (aX cur (gO n a))<=a.c) with
  |true=>
   obtain⟨M',h1,h2,h3,h4,h5⟩:=(Pq B C K n cur a num y (aX cur (gO n a)) hM X0 gC gK nK a3 hY a1 a0 hz c0).1 c1 a7 a6
   have e:dM (dS y) (aX cur (gO n a)) a.c=false:=by simp only [dM,c0,Bool.false_or];exact xAa (by have:=of_decide_eq_true c1;omega)
   exact a4 h1 h2 h4 h5 e.symm (by simp [iO,e])
  |false=>
   obtain⟨M',h1,h2,h3,h4,h5⟩:=(Pq B C K n cur a num y (aX cur (gO n a)) hM X0 gC gK nK a3 hY a1 a0 hz c0).2 c1 a7 a6 a9
   rw[a2] at h4
   have e:dM (dS y) (aX cur (gO n a)) a.c=true:=by simp only [dM,c0,Bool.false_or];exact xAb (by have:=of_decide_eq_false c1;omega)
   exact a4 h1 h2 h4 h5 e.symm (by simp [iO,e])
open Tryz
theorem nn5{n:Nat}(hn:1<=n/\n<=24):IntKind.wrap .i64 (IntKind.wrap .i64 ((n:Int)*(n:Int))*(5:Int))=((n*n*5:Nat):Int):=by
 have h1:(0:Int)<=(n:Int)*(n:Int):=Int.mul_nonneg (by omega) (by omega)
 have h2:(n:Int)*(n:Int)<=24*24:=Int.mul_le_mul (by omega) (by omega) (by omega) (by omega)
 rw[Go.Am.eG (i:=(n:Int)*(n:Int)) (by omega) (by omega),Go.Am.eG (by omega) (by omega)]
 push_cast;rfl
theorem rK52:Tryz.f52.results= #[.tmp 4]:=by kernel_rfl
theorem hw45A(n B:Nat){M:aB}(hM:aA M)(a6:1<=n/\n<=24): ∃v_ M',Ev prog [] 52 [i64 n,.func (.func 53) ⟨[pt B 0]⟩ ⟨[]⟩] M v_ M'/\Ext M M'/\aA M'/\ ∃C K,v_=pt C 0/\M.next<=C/\M.next<=K/\C≠K/\M'.get C=some ⟨[i64 n,aC K 0 (n*n*5) (n*n*5+1),.func (.func 53) ⟨[pt B 0]⟩ ⟨[]⟩],79,3,0,true⟩/\M'.get K=some ⟨(kN n).map i64,3,1,0,true⟩:=by
 obtain⟨b1,M2,c2,c3,g5,E6,c6⟩:=bC hM ⟨[i64 (-1)],3,1,0,true⟩
 have X9:=(Ext.refl M).trans E6
 have a4:(IntKind.wrap .i64 ((IntKind.wrap .i64 ((n:Int)*(n:Int)))*(5:Int)))=(((n*n*5):Nat):Int):=nn5 a6
 obtain⟨d0,c9,a8,c8,c7,c1,b8,b3,b9⟩:=aL (x:=((),n*n*5)) c6 Sn (⟨⟨_,_,rfl,⟨_,rfl,g5⟩,congrArg i64 a4⟩,⟨n,a6,.inr rfl⟩⟩)
 obtain⟨a3,b2,a2,a5⟩:=b9
 subst b2
 have a2:=Nat.le_trans (X9).next a2
 have b7:=X9.trans b8
 obtain⟨a7,a9,a1,b0,c4,b6,b4⟩:=bC b3 ⟨[i64 (n:Int),aC a3 0 (n*n*5) (n*n*5+1),.func (.func 53) ⟨[pt B 0]⟩ ⟨[]⟩],79,3,0,true⟩
 have b5:=lQ a1 b7
 have a0:=fJ a5 a1
 have c5:=b6.old a5
 have c0:=b7.trans b6
 exact⟨pt a7 0,a9,Ev.told_tmp (tb:=[]) (n:=60) (F:=[bJ 3 (aC b1 0 1 2) M2,bJ 13 (aC a3 0 (n*n*5) (n*n*5+1)) a8,bJ 25 (pt a7 0) a9]) aG aF Tryz.func52 Uo (by kernel_rfl) rK52 (fun B=>lV (gH 51 Q51 (gL _))) (fun _ _=>rfl) (by kernel_rfl) (hq (.eq (bH prog 22 1 [(0,(i64 (-1)))] M) (1,.val (aC b1 0 1 2),M2)) (bN (by rw[<-c2,<-c3];kernel_rfl) xAc) (hq (qC 51 [aC b1 0 1 2,i64 (IntKind.wrap .i64 ((IntKind.wrap .i64 ((n:Int)*(n:Int)))*(5:Int)))] M2 (aC a3 0 (n*n*5) (n*n*5+1)) a8) (aK rfl c8 c7 c1) (hq (.eq (eI prog 79 (.agg ⟨[i64 (n:Int),aC a3 0 (n*n*5) (n*n*5+1),.func (.func 53) ⟨[pt B 0]⟩ ⟨[]⟩]⟩) a8) (1,.val (pt a7 0),a9)) (bN (by rw[<-a1,<-b0];kernel_rfl) xAc) hn))),c0,b4,⟨a7,a3,rfl,b5,a2,Ne.symm a0,c4,by unfold kN;rw[List.map_replicate];exact c5⟩⟩
theorem hw45E(n B:Nat){M:aB}(hM:aA M)(a6:1<=n/\n<=24): ∃v_ M',Ev prog [] 52 [i64 n,.func (.func 54) ⟨[pt B 0]⟩ ⟨[]⟩] M v_ M'/\Ext M M'/\aA M'/\ ∃C K,v_=pt C 0/\M.next<=C/\M.next<=K/\C≠K/\M'.get C=some ⟨[i64 n,aC K 0 (n*n*5) (n*n*5+1),.func (.func 54) ⟨[pt B 0]⟩ ⟨[]⟩],79,3,0,true⟩/\M'.get K=some ⟨(kN n).map i64,3,1,0,true⟩:=by
 obtain⟨b1,M2,c2,c3,g5,E6,c6⟩:=bC hM ⟨[i64 (-1)],3,1,0,true⟩
 have X9:=(Ext.refl M).trans E6
 have a4:(IntKind.wrap .i64 ((IntKind.wrap .i64 ((n:Int)*(n:Int)))*(5:Int)))=(((n*n*5):Nat):Int):=nn5 a6
 obtain⟨d0,c9,a8,c8,c7,c1,b8,b3,b9⟩:=aL (x:=((),n*n*5)) c6 Sn (⟨⟨_,_,rfl,⟨_,rfl,g5⟩,congrArg i64 a4⟩,⟨n,a6,.inr rfl⟩⟩)
 obtain⟨a3,b2,a2,a5⟩:=b9
 subst b2
 have a2:=Nat.le_trans (X9).next a2
 have b7:=X9.trans b8
 obtain⟨a7,a9,a1,b0,c4,b6,b4⟩:=bC b3 ⟨[i64 (n:Int),aC a3 0 (n*n*5) (n*n*5+1),.func (.func 54) ⟨[pt B 0]⟩ ⟨[]⟩],79,3,0,true⟩
 have b5:=lQ a1 b7
 have a0:=fJ a5 a1
 have c5:=b6.old a5
 have c0:=b7.trans b6
 exact⟨pt a7 0,a9,Ev.told_tmp (tb:=[]) (n:=60) (F:=[bJ 3 (aC b1 0 1 2) M2,bJ 13 (aC a3 0 (n*n*5) (n*n*5+1)) a8,bJ 25 (pt a7 0) a9]) aG aF Tryz.func52 Uo (by kernel_rfl) rK52 (fun B=>lV (gH 51 Q51 (gL _))) (fun _ _=>rfl) (by kernel_rfl) (hq (.eq (bH prog 22 1 [(0,(i64 (-1)))] M) (1,.val (aC b1 0 1 2),M2)) (bN (by rw[<-c2,<-c3];kernel_rfl) xAc) (hq (qC 51 [aC b1 0 1 2,i64 (IntKind.wrap .i64 ((IntKind.wrap .i64 ((n:Int)*(n:Int)))*(5:Int)))] M2 (aC a3 0 (n*n*5) (n*n*5+1)) a8) (aK rfl c8 c7 c1) (hq (.eq (eI prog 79 (.agg ⟨[i64 (n:Int),aC a3 0 (n*n*5) (n*n*5+1),.func (.func 54) ⟨[pt B 0]⟩ ⟨[]⟩]⟩) a8) (1,.val (pt a7 0),a9)) (bN (by rw[<-a1,<-b0];kernel_rfl) xAc) hn))),c0,b4,⟨a7,a3,rfl,b5,a2,Ne.symm a0,c4,by unfold kN;rw[List.map_replicate];exact c5⟩⟩
def aAy(fc:FuncId)(x:Nat×Nat)(nx:Nat)(v:Value)(M:aB):Prop:= ∃C K,v=pt C 0/\nx<=C/\nx<=K/\C≠K/\M.get C=some ⟨[i64 (x.1:Int),aC K 0 (x.1*x.1*5) (x.1*x.1*5+1),.func (.func fc) ⟨[pt x.2 0]⟩ ⟨[]⟩],79,3,0,true⟩/\M.get K=some ⟨(kN x.1).map i64,3,1,0,true⟩
instance(fc:FuncId):AQ (aAy fc):=⟨fun hE ⟨C,K,h1,h2,h3,h4,h5,h6⟩=>⟨C,K,h1,h2,h3,h4,hE _ _ h5,hE _ _ h6⟩⟩
def pCl(fc:FuncId)(B:Nat)(v:Value)(_:aB):Prop:=v= .func (.func fc) ⟨[pt B 0]⟩ ⟨[]⟩
instance(fc:FuncId):AP (pCl fc):=⟨fun h k=>by unfold pCl at h k;rw[h] at k;simpa [pt] using k,fun _ h=>h⟩
abbrev Q52A:=FC (gN (lX pN (pCl 53)) fun x=>1<=x.1/\x.1<=24) (aAy 53) id
theorem Zf{x:Nat×Nat}{lv:List Value}{M:aB}(hM:aA M)(h:(gN (lX pN (pCl 53)) fun x=>1<=x.1/\x.1<=24) x lv M): ∃v M',kR prog [] 52 Q52A lv M v M':=by
 refine FC.con h ?_
 obtain⟨⟨g0,g1,rfl,k0,k1⟩,hn⟩:=h
 obtain⟨n,B⟩:=x
 obtain rfl:=k0
 obtain rfl:=k1
 obtain⟨v,M',h1,h2,_,h3⟩:=hw45A n B hM hn
 exact⟨v,M',h1,h2,h3⟩
abbrev Q52E:=FC (gN (lX pN (pCl 54)) fun x=>1<=x.1/\x.1<=24) (aAy 54) id
theorem Zg{x:Nat×Nat}{lv:List Value}{M:aB}(hM:aA M)(h:(gN (lX pN (pCl 54)) fun x=>1<=x.1/\x.1<=24) x lv M): ∃v M',kR prog [] 52 Q52E lv M v M':=by
 refine FC.con h ?_
 obtain⟨⟨g0,g1,rfl,k0,k1⟩,hn⟩:=h
 obtain⟨n,B⟩:=x
 obtain rfl:=k0
 obtain rfl:=k1
 obtain⟨v,M',h1,h2,_,h3⟩:=hw45E n B hM hn
 exact⟨v,M',h1,h2,h3⟩
open Tryz
theorem Qf:(prog.underlying 53).map dV=some false:=by kernel_rfl
theorem dS53:(prog.info? 53).map (·.size)=some 1:=by kernel_rfl
def pBr(x:Nat×List Int×List Bool)(v:Value)(M:aB):Prop:= ∃B C G cg c0 c1 c2 c3 c4 c5,v=pt B 0/\M.get B=some ⟨[c0,c1,c2,c3,c4,c5,pt C 0,aC G 0 x.1 cg],56,8,0,true⟩/\qR 79 (x.1,x.2.1) (pt C 0) M/\M.get G=some ⟨x.2.2.map .bool,4,1,0,true⟩
instance:AP pBr:=⟨fun{x y v M} ⟨B,C,G,cg,c0,c1,c2,c3,c4,c5,h1,h2,h3,h4⟩ ⟨B',C',G',cg',d0,d1,d2,d3,d4,d5,k1,k2,k3,k4⟩=>by
 rw[h1] at k1
 simp only [pt,Value.pointer.injEq,Option.some.injEq,Addr.mk.injEq,and_true] at k1
 subst k1
 rw[h2] at k2
 simp only [Option.some.injEq,aU.mk.injEq,List.cons.injEq,Value.slice.injEq,Addr.mk.injEq,and_true,true_and,pt,Value.pointer.injEq] at k2
 obtain⟨_,_,_,_,_,_,rfl,⟨rfl,_⟩⟩:=k2
 rw[h4] at k4
 simp only [Option.some.injEq,aU.mk.injEq,and_true] at k4
 have e1:x.2.2=y.2.2:=(List.map_inj_right (fun x y h=>by simpa using h)).1 k4
 have e2:=AP.uniq (R:=qR 79) h3 k3
 obtain⟨a,b,c⟩:=x;obtain⟨a',b',c'⟩:=y
 simp_all,fun hE ⟨B,C,G,cg,c0,c1,c2,c3,c4,c5,h1,h2,h3,h4⟩=>⟨B,C,G,cg,c0,c1,c2,c3,c4,c5,h1,hE _ _ h2,AP.ext (R:=qR 79) hE h3,hE _ _ h4⟩⟩
def pLook(fl:FuncId)(_:Unit)(v:Value)(_:aB):Prop:=v= .func (.func fl) ⟨[]⟩ ⟨[]⟩
instance(fl:FuncId):AP (pLook fl):=⟨fun _ _=>rfl,fun _ h=>h⟩
theorem riOn(bB C K G n ck cg:Nat)(c0 c1 c2 c3 c4 c5 cl:Value)(cur:List Int)(gone:List Bool)(v u m:Nat)(S:Value)(l:List Int){M M0:aB}(hM:aA M)(X0:Ext M0 M)(a0:M0.get bB=some ⟨[c0,c1,c2,c3,c4,c5,pt C 0,aC G 0 n cg],56,8,0,true⟩)(a7:M0.get C=some ⟨[i64 n,aC K 0 cur.length ck,cl],79,3,0,true⟩)(a8:M0.get K=some ⟨cur.map i64,3,1,0,true⟩)(gG0:M0.get G=some ⟨gone.map Value.bool,4,1,0,true⟩)(a1:n<=60)(b1:cur.length=n*n*5)(hv:v<n)(hgl:gone.length=n)(hu:u<n)(hA:cR 3 1 M0 [bB,C,K,G] l.length (l.map i64) S M)(hl30:l.length<1073741824)(a2:(decide ((m:Int)<(5:Int)))=true)(a5:((aX cur (bK n .out v u m))==(-1:Int))=true): ∃T1 M',Rd prog [] (q62.loopAt 2) Tryz.f62.ntmps (fr [(0,(pt bB 0)),(1,(.func (.func 63) ⟨[]⟩ ⟨[]⟩)),(2,(i64 (v:Int))),(7,S),(8,(i64 (u:Int))),(15,(aC G 0 n cg)),(16,(i64 (n:Int))),(17,(i64 (u:Int))),(23,(i64 (m:Int)))]) M .normal T1 M'/\ [0,1,2,7,8,15,16,17,23].map T1.get= [some (pt bB 0),some (.func (.func 63) ⟨[]⟩ ⟨[]⟩),some (i64 (v:Int)),some S,some (i64 (u:Int)),some (aC G 0 n cg),some (i64 (n:Int)),some (i64 (u:Int)),some (i64 (IntKind.wrap .i64 ((m:Int)+(1:Int))))]/\Ext M0 M'/\aA M'/\cR 3 1 M0 [bB,C,K,G] l.length (l.map i64) S M':=by
 have a9:=X0.old a0
 have gC:=X0.old a7
 have gK:=X0.old a8
 obtain⟨w1,N2,M3,p4,l5,e6,E7,b0,F9⟩:=aL (x:=((n,cur),v,u,m)) hM Ya (⟨⟨_,_,_,_,rfl,⟨C,K,_,_,rfl,gC,gK⟩,rfl,rfl,rfl⟩,a1,b1,hv,hu,(by have:=of_decide_eq_true a2;show m<5;omega)⟩)
 have a3:=hA.ext E7
 have a6:w1=i64 (aX cur (bK n .out v u m)):=F9
 subst a6
 have a4:=X0.trans E7
 obtain⟨T1,h1,h2⟩:=Rd.told (tb:=[]) (n:=60) (F:=[aQ 2,aR 16 (pt C 0),bJ 24 (i64 (aX cur (bK n .out v u m))) M3,aO 31]) aG aF (fun B=>lV (gH 63 Q63 (gL _))) (fun _ _=>rfl) (by kernel_rfl) (hk (bT a2) (hk (lO 6 Qf a9 rfl) (hq (qC 63 [pt C 0,i64 (v:Int),i64 (u:Int),i64 (m:Int)] M (i64 (aX cur (bK n .out v u m))) M3) (aK rfl p4 l5 e6) (hk (bF (x:=!((aX cur (bK n .out v u m))==(-1:Int))) (by rw[a5];rfl)) hn))))
 exact⟨T1,M3,h1,h2,a4,b0,a3⟩
theorem riOa(bB C K G n ck cg:Nat)(c0 c1 c2 c3 c4 c5 cl:Value)(cur:List Int)(gone:List Bool)(v u m:Nat)(S:Value)(l:List Int){M M0:aB}(hM:aA M)(X0:Ext M0 M)(a9:M0.get bB=some ⟨[c0,c1,c2,c3,c4,c5,pt C 0,aC G 0 n cg],56,8,0,true⟩)(e3:M0.get C=some ⟨[i64 n,aC K 0 cur.length ck,cl],79,3,0,true⟩)(e5:M0.get K=some ⟨cur.map i64,3,1,0,true⟩)(e4:M0.get G=some ⟨gone.map Value.bool,4,1,0,true⟩)(b2:n<=60)(e8:cur.length=n*n*5)(hv:v<n)(hgl:gone.length=n)(hu:u<n)(hA:cR 3 1 M0 [bB,C,K,G] l.length (l.map i64) S M)(b3:l.length<1073741824)(b6:(decide ((m:Int)<(5:Int)))=true)(d7:((aX cur (bK n .out v u m))==(-1:Int))=false): ∃T1 M' a1,Rd prog [] (q62.loopAt 2) Tryz.f62.ntmps (fr [(0,(pt bB 0)),(1,(.func (.func 63) ⟨[]⟩ ⟨[]⟩)),(2,(i64 (v:Int))),(7,S),(8,(i64 (u:Int))),(15,(aC G 0 n cg)),(16,(i64 (n:Int))),(17,(i64 (u:Int))),(23,(i64 (m:Int)))]) M .normal T1 M'/\ [0,1,2,7,8,15,16,17,23].map T1.get= [some (pt bB 0),some (.func (.func 63) ⟨[]⟩ ⟨[]⟩),some (i64 (v:Int)),some a1,some (i64 (u:Int)),some (aC G 0 n cg),some (i64 (n:Int)),some (i64 (u:Int)),some (i64 (IntKind.wrap .i64 ((m:Int)+(1:Int))))]/\Ext M0 M'/\aA M'/\cR 3 1 M0 [bB,C,K,G] (l.length+1) (l.map i64++ [i64 (aX cur (bK n .out v u m))]) a1 M':=by
 have d1:=X0.old a9
 have gC:=X0.old e3
 have gK:=X0.old e5
 have gG:=X0.old e4
 obtain⟨w1,N2,M3,p4,l5,e6,E7,e7,F9⟩:=aL (x:=((n,cur),v,u,m)) hM Ya (⟨⟨_,_,_,_,rfl,⟨C,K,_,_,rfl,gC,gK⟩,rfl,rfl,rfl⟩,b2,e8,hv,hu,(by have:=of_decide_eq_true b6;show m<5;omega)⟩)
 have d2:=hA.ext E7
 have c6:=E7.old d1
 have c7:=E7.old gC
 have c8:=E7.old gK
 have c9:=E7.old gG
 have d8:w1=i64 (aX cur (bK n .out v u m)):=F9
 subst d8
 have b5:=X0.trans E7
 obtain⟨a6,a5,a0,a8,d0,a2,b0⟩:=bC e7 ⟨[i64 (aX cur (bK n .out v u m))],3,1,0,true⟩
 have f1:=lQ a0 b5
 have a7:=fJ c6 a0
 have b7:=fJ c7 a0
 have b9:=fJ c8 a0
 have b8:=fJ c9 a0
 have d3:=d2.new a0 a2
 have d9:=a2.old c6
 have e0:=a2.old c7
 have e1:=a2.old c8
 have e2:=a2.old c9
 have d5:=b5.trans a2
 obtain⟨a4,a1,a3,f2,d6,b1,d4,f0,e9⟩:=fX (P:=prog) (sT:=22) (xT:=22) (y:=8) (c:=2) d3 d5 b0 (by intro x hx;simp only [List.mem_cons,List.not_mem_nil,or_false] at hx;rcases hx with rfl|rfl|rfl|rfl|rfl<;>first|exact aB.lt_of_get d0|exact aB.lt_of_get d9|exact aB.lt_of_get e0|exact aB.lt_of_get e1|exact aB.lt_of_get e2) (by kernel_rfl) (by kernel_rfl) (by kernel_rfl) (by kernel_rfl) (by decide) (by decide) rfl b3 d0 (o:=0) (new:= [i64 (aX cur (bK n .out v u m))]) rfl rfl rfl
 have b4:oR prog [] 60 Tryz.f62 (q62.loopAt 2) [(0,(pt bB 0)),(1,(.func (.func 63) ⟨[]⟩ ⟨[]⟩)),(2,(i64 (v:Int))),(7,S),(8,(i64 (u:Int))),(15,(aC G 0 n cg)),(16,(i64 (n:Int))),(17,(i64 (u:Int))),(23,(i64 (m:Int)))] M [aQ 2,aR 16 (pt C 0),bJ 24 (i64 (aX cur (bK n .out v u m))) M3,aQ 31,bJ 37 (aC a6 0 1 2) a5,.at 39 ((bif a4 then 1 else 2),.val a1,a3)] [0,1,2,7,8,15,16,17,23]=some (.normal,[some (pt bB 0),some (.func (.func 63) ⟨[]⟩ ⟨[]⟩),some (i64 (v:Int)),some a1,some (i64 (u:Int)),some (aC G 0 n cg),some (i64 (n:Int)),some (i64 (u:Int)),some (i64 (IntKind.wrap .i64 ((m:Int)+(1:Int))))],a3,[qT (decide ((m:Int)<(5:Int))),qL 53 bB 6 M (pt C 0),qC 63 [pt C 0,i64 (v:Int),i64 (u:Int),i64 (m:Int)] M (i64 (aX cur (bK n .out v u m))) M3,qT (!((aX cur (bK n .out v u m))==(-1:Int))),.eq (bH prog 22 1 [(0,(i64 (aX cur (bK n .out v u m))))] M3) (1,.val (aC a6 0 1 2),a5),.q (.append [22,22] S (aC a6 0 1 2) a5) ((bif a4 then 1 else 2),.val a1,a3)]):=by cases a4<;>kernel_rfl
 obtain⟨T1,h1,h2⟩:=Rd.told aG aF (fun B=>lV (gH 63 Q63 (gL _))) (fun _ _=>rfl) b4 (hk (bT b6) (hk (lC Qf d1 rfl) (hk (aK rfl p4 l5 e6) (hk (bT (by rw[d7];rfl)) (hk (bN (by rw[<-a0,<-a8];kernel_rfl) xAc) (hk (kB f2 (by cases a4<;>simp)) hn))))))
 exact⟨T1,a3,a1,h1,h2,d6,b1,d4.less (by intro x hx;simp only [List.mem_cons,List.not_mem_nil,or_false] at hx⊢;omega)⟩
theorem riOx(bB G n cg v u m:Nat)(S:Value){M:aB}(a0:(decide ((m:Int)<(5:Int)))=false): ∃T1,Rd prog [] (q62.loopAt 2) Tryz.f62.ntmps (fr [(0,(pt bB 0)),(1,(.func (.func 63) ⟨[]⟩ ⟨[]⟩)),(2,(i64 (v:Int))),(7,S),(8,(i64 (u:Int))),(15,(aC G 0 n cg)),(16,(i64 (n:Int))),(17,(i64 (u:Int))),(23,(i64 (m:Int)))]) M (.exit 2) T1 M/\ [0,1,2,7,15,16,17].map T1.get= [some (pt bB 0),some (.func (.func 63) ⟨[]⟩ ⟨[]⟩),some (i64 (v:Int)),some S,some (aC G 0 n cg),some (i64 (n:Int)),some (i64 (u:Int))]:=by
 exact Rd.told (tb:=[]) (n:=60) (F:=[aO 2]) aG aF (aI prog) (fun _ _=>rfl) (by kernel_rfl) (hk (bF a0) hn)
theorem aAf{bB C K G n ck cg:Nat}{c0 c1 c2 c3 c4 c5 cl:Value}{cur:List Int}{gone:List Bool}{v u:Nat}{S:Value}{l:List Int}{M0 M:aB}(hM:aA M)(X0:Ext M0 M)(a0:M0.get bB=some ⟨[c0,c1,c2,c3,c4,c5,pt C 0,aC G 0 n cg],56,8,0,true⟩)(a4:M0.get C=some ⟨[i64 n,aC K 0 cur.length ck,cl],79,3,0,true⟩)(a6:M0.get K=some ⟨cur.map i64,3,1,0,true⟩)(a5:M0.get G=some ⟨gone.map Value.bool,4,1,0,true⟩)(a1:n<=60)(a7:cur.length=n*n*5)(hv:v<n)(a8:gone.length=n)(hu:u<n)(hA:cR 3 1 M0 [bB,C,K,G] l.length (l.map i64) S M)(hl30:l.length<1000000):
  ∃S' M',bL prog [] (q62.loopAt 2) Tryz.f62.ntmps (fr [(0,pt bB 0),(1,(.func (.func 63) ⟨[]⟩ ⟨[]⟩)),(2,i64 v),(7,S),(8,i64 u),(15,aC G 0 n cg),(16,i64 n),(17,i64 u),(23,i64 ((0:Nat):Int))]) M (.exit 2) (fr [(0,pt bB 0),(1,(.func (.func 63) ⟨[]⟩ ⟨[]⟩)),(2,i64 v),(7,S'),(15,aC G 0 n cg),(16,i64 n),(17,i64 u)]) M'/\Ext M0 M'/\aA M'/\cR 3 1 M0 [bB,C,K,G] (l++gS n cur .out v u 5).length ((l++gS n cur .out v u 5).map i64) S' M':=by
 obtain⟨S',M',h1,h2,h3,h4⟩:=bL.for (P:=prog) (GL:= []) (b:=q62.loopAt 2) (nt:=Tryz.f62.ntmps) (id:=2) (σ:=Value) (n:=5) (Inv:=fun i S M1=>Ext M0 M1/\aA M1/\cR 3 1 M0 [bB,C,K,G] (l++gS n cur .out v u i).length ((l++gS n cur .out v u i).map i64) S M1)
  (F:=fun i S=> [(0,pt bB 0),(1,(.func (.func 63) ⟨[]⟩ ⟨[]⟩)),(2,i64 v),(7,S),(8,i64 u),(15,aC G 0 n cg),(16,i64 n),(17,i64 u),(23,i64 ((i:Nat):Int))])
  (O:=fun S=> [(0,pt bB 0),(1,(.func (.func 63) ⟨[]⟩ ⟨[]⟩)),(2,i64 v),(7,S),(15,aC G 0 n cg),(16,i64 n),(17,i64 u)])
  (by
   rintro i S M1 hi ⟨X1,a3,a2⟩
   have hln:=xZ n cur .out v u i
   have a9:(l++gS n cur .out v u i).length<1073741824:=by rw[List.length_append];omega
   cases hq:(aX cur (bK n .out v u i))==(-1:Int) with
   |true=>
    obtain⟨T1,M2,h1,h2,h3,h4,h5⟩:=riOn bB C K G n ck cg c0 c1 c2 c3 c4 c5 cl cur gone v u i S (l++gS n cur .out v u i) a3 X1 a0 a4 a6 a5 a1 a7 hv a8 hu a2 a9 (xAb (by omega)) hq
    rw[bD (by omega)] at h2
    refine⟨S,T1,M2,h1,h2,h3,h4,?_⟩
    rw[show gS n cur .out v u (i+1)=gS n cur .out v u i by rw[gS,hq];simp]
    exact h5
   |false=>
    obtain⟨T1,M2,S2,h1,h2,h3,h4,h5⟩:=riOa bB C K G n ck cg c0 c1 c2 c3 c4 c5 cl cur gone v u i S (l++gS n cur .out v u i) a3 X1 a0 a4 a6 a5 a1 a7 hv a8 hu a2 a9 (xAb (by omega)) hq
    rw[bD (by omega)] at h2
    refine⟨S2,T1,M2,h1,h2,h3,h4,?_⟩
    rw[show l++gS n cur .out v u (i+1)=(l++gS n cur .out v u i)++ [aX cur (bK n .out v u i)] by rw[gS,hq];simp,List.length_append (bs:= [_]),List.map_append]
    exact h5)
  (by
   rintro S M1 ⟨X1,a3,a2⟩
   exact riOx bB G n cg v u 5 S (M:=M1) (xAa (by omega)))
  5 0 (by omega) (s:=S) (M:=M) ⟨X0,hM,by simpa [gS] using hA⟩
 exact⟨S',M',h1,h2,h3,h4⟩
theorem roOg(bB C K G n ck cg:Nat)(c0 c1 c2 c3 c4 c5 cl:Value)(cur:List Int)(gone:List Bool)(v u:Nat)(S:Value)(l:List Int)(gq:Bool){M:aB}{M0:aB}(X0:Ext M0 M)(gbB0:M0.get bB=some ⟨[c0,c1,c2,c3,c4,c5,pt C 0,aC G 0 n cg],56,8,0,true⟩)(gC0:M0.get C=some ⟨[i64 n,aC K 0 cur.length ck,cl],79,3,0,true⟩)(gK0:M0.get K=some ⟨cur.map i64,3,1,0,true⟩)(a2:M0.get G=some ⟨gone.map Value.bool,4,1,0,true⟩)(hc60:n<=60)(hcl:cur.length=n*n*5)(hv:v<n)(hgl:gone.length=n)(hA:cR 3 1 M0 [bB,C,K,G] l.length (l.map i64) S M)(hl30:l.length<1000000)(a0:(decide ((u:Int)<(n:Int)))=true)(a1:(gq)=true)(a3:(gone.map Value.bool)[0+((u:Int):Int).toNat*1]?=some (.bool gq)): ∃T1,Rd prog [] (q62.loopAt 0) Tryz.f62.ntmps (fr [(0,(pt bB 0)),(1,(.func (.func 63) ⟨[]⟩ ⟨[]⟩)),(2,(i64 (v:Int))),(7,S),(15,(aC G 0 n cg)),(16,(i64 (n:Int))),(17,(i64 (u:Int)))]) M .normal T1 M/\ [0,1,2,7,15,16,17].map T1.get= [some (pt bB 0),some (.func (.func 63) ⟨[]⟩ ⟨[]⟩),some (i64 (v:Int)),some S,some (aC G 0 n cg),some (i64 (n:Int)),some (i64 (IntKind.wrap .i64 ((u:Int)+(1:Int))))]:=by
 have gG:=X0.old a2
 exact Rd.told (tb:=[]) (n:=60) (F:=[aQ 2,aQ 6,aR 8 (.bool gq),aQ 15]) aG aF (aI prog) (fun _ _=>rfl) (by kernel_rfl) (hk (bT a0) (hk (qI (u:Int) n (by omega) (by simp at a0;omega)) (hq (qL 4 G (0+((u:Int):Int).toNat*1) M (.bool gq)) (eO (bI (a:=⟨G,0+((u:Int):Int).toNat*1,none⟩) Sv gG a3)) (hk (bT a1) hn))))
theorem roOs(bB C K G n ck cg:Nat)(c0 c1 c2 c3 c4 c5 cl:Value)(cur:List Int)(gone:List Bool)(v u:Nat)(S:Value)(l:List Int)(gq:Bool){M M0:aB}(hM:aA M)(X0:Ext M0 M)(a1:M0.get bB=some ⟨[c0,c1,c2,c3,c4,c5,pt C 0,aC G 0 n cg],56,8,0,true⟩)(a6:M0.get C=some ⟨[i64 n,aC K 0 cur.length ck,cl],79,3,0,true⟩)(a7:M0.get K=some ⟨cur.map i64,3,1,0,true⟩)(a4:M0.get G=some ⟨gone.map Value.bool,4,1,0,true⟩)(a2:n<=60)(b1:cur.length=n*n*5)(hv:v<n)(b2:gone.length=n)(hA:cR 3 1 M0 [bB,C,K,G] l.length (l.map i64) S M)(a3:l.length<1000000)(a0:(decide ((u:Int)<(n:Int)))=true)(a5:(gq)=false)(b0:(gone.map Value.bool)[0+((u:Int):Int).toNat*1]?=some (.bool gq)): ∃T1 M' S1,Rd prog [] (q62.loopAt 0) Tryz.f62.ntmps (fr [(0,(pt bB 0)),(1,(.func (.func 63) ⟨[]⟩ ⟨[]⟩)),(2,(i64 (v:Int))),(7,S),(15,(aC G 0 n cg)),(16,(i64 (n:Int))),(17,(i64 (u:Int)))]) M .normal T1 M'/\ [0,1,2,7,15,16,17].map T1.get= [some (pt bB 0),some (.func (.func 63) ⟨[]⟩ ⟨[]⟩),some (i64 (v:Int)),some S1,some (aC G 0 n cg),some (i64 (n:Int)),some (i64 (IntKind.wrap .i64 ((u:Int)+(1:Int))))]/\Ext M0 M'/\aA M'/\cR 3 1 M0 [bB,C,K,G] (l++gS n cur .out v u 5).length ((l++gS n cur .out v u 5).map i64) S1 M':=by
 have gG:=X0.old a4
 obtain⟨S1,M2,a8,X4,a9,A6⟩:=aAf hM X0 a1 a6 a7 a4 a2 b1 hv b2 (u:=u) (by simp at a0;omega) hA a3
 obtain⟨T1,h1,h2⟩:=Rd.told (tb:=[2]) (n:=60) (F:=[aQ 2,aQ 6,aR 8 (.bool gq),aO 15,.blk 18 [0,1,2,7,8,15,16,17,23] .normal (fr [(0,(pt bB 0)),(1,(.func (.func 63) ⟨[]⟩ ⟨[]⟩)),(2,(i64 (v:Int))),(7,S1),(15,(aC G 0 n cg)),(16,(i64 (n:Int))),(17,(i64 (u:Int)))]) M2]) aG aF (fun B=>wR (gL B) 2 a8) (fun _ h=>bZ h) (by kernel_rfl) (hk (bT a0) (hk (qI (u:Int) n (by omega) (by simp at a0;omega)) (hq (qL 4 G (0+((u:Int):Int).toNat*1) M (.bool gq)) (eO (bI (a:=⟨G,0+((u:Int):Int).toNat*1,none⟩) Sv gG b0)) (hk (bF a5) (hq (.blk 2 (.loop (q62.loopAt 2)) Tryz.f62.ntmps [0,1,2,7,8,15,16,17,23] [some (pt bB 0),some (.func (.func 63) ⟨[]⟩ ⟨[]⟩),some (i64 (v:Int)),some S,some (i64 (u:Int)),some (aC G 0 n cg),some (i64 (n:Int)),some (i64 (u:Int)),some (i64 0)] M .normal (fr [(0,(pt bB 0)),(1,(.func (.func 63) ⟨[]⟩ ⟨[]⟩)),(2,(i64 (v:Int))),(7,S1),(15,(aC G 0 n cg)),(16,(i64 (n:Int))),(17,(i64 (u:Int)))]) M2) (fB rfl) hn)))))
 exact⟨T1,M2,S1,h1,h2,X4,a9,A6⟩
theorem roOx(bB C K G n ck cg:Nat)(c0 c1 c2 c3 c4 c5 cl:Value)(cur:List Int)(gone:List Bool)(v u:Nat)(S:Value){M:aB}{M0:aB}(X0:Ext M0 M)(gbB0:M0.get bB=some ⟨[c0,c1,c2,c3,c4,c5,pt C 0,aC G 0 n cg],56,8,0,true⟩)(gC0:M0.get C=some ⟨[i64 n,aC K 0 cur.length ck,cl],79,3,0,true⟩)(gK0:M0.get K=some ⟨cur.map i64,3,1,0,true⟩)(gG0:M0.get G=some ⟨gone.map Value.bool,4,1,0,true⟩)(a0:(decide ((u:Int)<(n:Int)))=false): ∃T1,Rd prog [] (q62.loopAt 0) Tryz.f62.ntmps (fr [(0,(pt bB 0)),(1,(.func (.func 63) ⟨[]⟩ ⟨[]⟩)),(2,(i64 (v:Int))),(7,S),(15,(aC G 0 n cg)),(16,(i64 (n:Int))),(17,(i64 (u:Int)))]) M (.exit 0) T1 M/\ [7].map T1.get= [some S]:=by
 exact Rd.told (tb:=[]) (n:=60) (F:=[aO 2]) aG aF (aI prog) (fun _ _=>rfl) (by kernel_rfl) (hk (bF a0) hn)
theorem riIn(bB C K G n ck cg:Nat)(c0 c1 c2 c3 c4 c5 cl:Value)(cur:List Int)(gone:List Bool)(v u m:Nat)(S:Value)(l:List Int){M M0:aB}(hM:aA M)(X0:Ext M0 M)(a0:M0.get bB=some ⟨[c0,c1,c2,c3,c4,c5,pt C 0,aC G 0 n cg],56,8,0,true⟩)(a7:M0.get C=some ⟨[i64 n,aC K 0 cur.length ck,cl],79,3,0,true⟩)(a8:M0.get K=some ⟨cur.map i64,3,1,0,true⟩)(gG0:M0.get G=some ⟨gone.map Value.bool,4,1,0,true⟩)(a1:n<=60)(b1:cur.length=n*n*5)(hv:v<n)(hgl:gone.length=n)(hu:u<n)(hA:cR 3 1 M0 [bB,C,K,G] l.length (l.map i64) S M)(hl30:l.length<1073741824)(a2:(decide ((m:Int)<(5:Int)))=true)(a5:((aX cur (bK n .inn v u m))==(-1:Int))=true): ∃T1 M',Rd prog [] (q62.loopAt 2) Tryz.f62.ntmps (fr [(0,(pt bB 0)),(1,(.func (.func 64) ⟨[]⟩ ⟨[]⟩)),(2,(i64 (v:Int))),(7,S),(8,(i64 (u:Int))),(15,(aC G 0 n cg)),(16,(i64 (n:Int))),(17,(i64 (u:Int))),(23,(i64 (m:Int)))]) M .normal T1 M'/\ [0,1,2,7,8,15,16,17,23].map T1.get= [some (pt bB 0),some (.func (.func 64) ⟨[]⟩ ⟨[]⟩),some (i64 (v:Int)),some S,some (i64 (u:Int)),some (aC G 0 n cg),some (i64 (n:Int)),some (i64 (u:Int)),some (i64 (IntKind.wrap .i64 ((m:Int)+(1:Int))))]/\Ext M0 M'/\aA M'/\cR 3 1 M0 [bB,C,K,G] l.length (l.map i64) S M':=by
 have a9:=X0.old a0
 have gC:=X0.old a7
 have gK:=X0.old a8
 obtain⟨w1,N2,M3,p4,l5,e6,E7,b0,F9⟩:=aL (x:=((n,cur),v,u,m)) hM Yb (⟨⟨_,_,_,_,rfl,⟨C,K,_,_,rfl,gC,gK⟩,rfl,rfl,rfl⟩,a1,b1,hv,hu,(by have:=of_decide_eq_true a2;show m<5;omega)⟩)
 have a3:=hA.ext E7
 have a6:w1=i64 (aX cur (bK n .inn v u m)):=F9
 subst a6
 have a4:=X0.trans E7
 obtain⟨T1,h1,h2⟩:=Rd.told (tb:=[]) (n:=60) (F:=[aQ 2,aR 16 (pt C 0),bJ 24 (i64 (aX cur (bK n .inn v u m))) M3,aO 31]) aG aF (fun B=>lV (gH 64 Q64 (gL _))) (fun _ _=>rfl) (by kernel_rfl) (hk (bT a2) (hk (lO 6 Qf a9 rfl) (hq (qC 64 [pt C 0,i64 (v:Int),i64 (u:Int),i64 (m:Int)] M (i64 (aX cur (bK n .inn v u m))) M3) (aK rfl p4 l5 e6) (hk (bF (x:=!((aX cur (bK n .inn v u m))==(-1:Int))) (by rw[a5];rfl)) hn))))
 exact⟨T1,M3,h1,h2,a4,b0,a3⟩
theorem riIa(bB C K G n ck cg:Nat)(c0 c1 c2 c3 c4 c5 cl:Value)(cur:List Int)(gone:List Bool)(v u m:Nat)(S:Value)(l:List Int){M M0:aB}(hM:aA M)(X0:Ext M0 M)(a9:M0.get bB=some ⟨[c0,c1,c2,c3,c4,c5,pt C 0,aC G 0 n cg],56,8,0,true⟩)(e3:M0.get C=some ⟨[i64 n,aC K 0 cur.length ck,cl],79,3,0,true⟩)(e5:M0.get K=some ⟨cur.map i64,3,1,0,true⟩)(e4:M0.get G=some ⟨gone.map Value.bool,4,1,0,true⟩)(b2:n<=60)(e8:cur.length=n*n*5)(hv:v<n)(hgl:gone.length=n)(hu:u<n)(hA:cR 3 1 M0 [bB,C,K,G] l.length (l.map i64) S M)(b3:l.length<1073741824)(b6:(decide ((m:Int)<(5:Int)))=true)(d7:((aX cur (bK n .inn v u m))==(-1:Int))=false): ∃T1 M' a1,Rd prog [] (q62.loopAt 2) Tryz.f62.ntmps (fr [(0,(pt bB 0)),(1,(.func (.func 64) ⟨[]⟩ ⟨[]⟩)),(2,(i64 (v:Int))),(7,S),(8,(i64 (u:Int))),(15,(aC G 0 n cg)),(16,(i64 (n:Int))),(17,(i64 (u:Int))),(23,(i64 (m:Int)))]) M .normal T1 M'/\ [0,1,2,7,8,15,16,17,23].map T1.get= [some (pt bB 0),some (.func (.func 64) ⟨[]⟩ ⟨[]⟩),some (i64 (v:Int)),some a1,some (i64 (u:Int)),some (aC G 0 n cg),some (i64 (n:Int)),some (i64 (u:Int)),some (i64 (IntKind.wrap .i64 ((m:Int)+(1:Int))))]/\Ext M0 M'/\aA M'/\cR 3 1 M0 [bB,C,K,G] (l.length+1) (l.map i64++ [i64 (aX cur (bK n .inn v u m))]) a1 M':=by
 have d1:=X0.old a9
 have gC:=X0.old e3
 have gK:=X0.old e5
 have gG:=X0.old e4
 obtain⟨w1,N2,M3,p4,l5,e6,E7,e7,F9⟩:=aL (x:=((n,cur),v,u,m)) hM Yb (⟨⟨_,_,_,_,rfl,⟨C,K,_,_,rfl,gC,gK⟩,rfl,rfl,rfl⟩,b2,e8,hv,hu,(by have:=of_decide_eq_true b6;show m<5;omega)⟩)
 have d2:=hA.ext E7
 have c6:=E7.old d1
 have c7:=E7.old gC
 have c8:=E7.old gK
 have c9:=E7.old gG
 have d8:w1=i64 (aX cur (bK n .inn v u m)):=F9
 subst d8
 have b5:=X0.trans E7
 obtain⟨a6,a5,a0,a8,d0,a2,b0⟩:=bC e7 ⟨[i64 (aX cur (bK n .inn v u m))],3,1,0,true⟩
 have f1:=lQ a0 b5
 have a7:=fJ c6 a0
 have b7:=fJ c7 a0
 have b9:=fJ c8 a0
 have b8:=fJ c9 a0
 have d3:=d2.new a0 a2
 have d9:=a2.old c6
 have e0:=a2.old c7
 have e1:=a2.old c8
 have e2:=a2.old c9
 have d5:=b5.trans a2
 obtain⟨a4,a1,a3,f2,d6,b1,d4,f0,e9⟩:=fX (P:=prog) (sT:=22) (xT:=22) (y:=8) (c:=2) d3 d5 b0 (by intro x hx;simp only [List.mem_cons,List.not_mem_nil,or_false] at hx;rcases hx with rfl|rfl|rfl|rfl|rfl<;>first|exact aB.lt_of_get d0|exact aB.lt_of_get d9|exact aB.lt_of_get e0|exact aB.lt_of_get e1|exact aB.lt_of_get e2) (by kernel_rfl) (by kernel_rfl) (by kernel_rfl) (by kernel_rfl) (by decide) (by decide) rfl b3 d0 (o:=0) (new:= [i64 (aX cur (bK n .inn v u m))]) rfl rfl rfl
 have b4:oR prog [] 60 Tryz.f62 (q62.loopAt 2) [(0,(pt bB 0)),(1,(.func (.func 64) ⟨[]⟩ ⟨[]⟩)),(2,(i64 (v:Int))),(7,S),(8,(i64 (u:Int))),(15,(aC G 0 n cg)),(16,(i64 (n:Int))),(17,(i64 (u:Int))),(23,(i64 (m:Int)))] M [aQ 2,aR 16 (pt C 0),bJ 24 (i64 (aX cur (bK n .inn v u m))) M3,aQ 31,bJ 37 (aC a6 0 1 2) a5,.at 39 ((bif a4 then 1 else 2),.val a1,a3)] [0,1,2,7,8,15,16,17,23]=some (.normal,[some (pt bB 0),some (.func (.func 64) ⟨[]⟩ ⟨[]⟩),some (i64 (v:Int)),some a1,some (i64 (u:Int)),some (aC G 0 n cg),some (i64 (n:Int)),some (i64 (u:Int)),some (i64 (IntKind.wrap .i64 ((m:Int)+(1:Int))))],a3,[qT (decide ((m:Int)<(5:Int))),qL 53 bB 6 M (pt C 0),qC 64 [pt C 0,i64 (v:Int),i64 (u:Int),i64 (m:Int)] M (i64 (aX cur (bK n .inn v u m))) M3,qT (!((aX cur (bK n .inn v u m))==(-1:Int))),.eq (bH prog 22 1 [(0,(i64 (aX cur (bK n .inn v u m))))] M3) (1,.val (aC a6 0 1 2),a5),.q (.append [22,22] S (aC a6 0 1 2) a5) ((bif a4 then 1 else 2),.val a1,a3)]):=by cases a4<;>kernel_rfl
 obtain⟨T1,h1,h2⟩:=Rd.told aG aF (fun B=>lV (gH 64 Q64 (gL _))) (fun _ _=>rfl) b4 (hk (bT b6) (hk (lC Qf d1 rfl) (hk (aK rfl p4 l5 e6) (hk (bT (by rw[d7];rfl)) (hk (bN (by rw[<-a0,<-a8];kernel_rfl) xAc) (hk (kB f2 (by cases a4<;>simp)) hn))))))
 exact⟨T1,a3,a1,h1,h2,d6,b1,d4.less (by intro x hx;simp only [List.mem_cons,List.not_mem_nil,or_false] at hx⊢;omega)⟩
theorem riIx(bB G n cg v u m:Nat)(S:Value){M:aB}(a0:(decide ((m:Int)<(5:Int)))=false): ∃T1,Rd prog [] (q62.loopAt 2) Tryz.f62.ntmps (fr [(0,(pt bB 0)),(1,(.func (.func 64) ⟨[]⟩ ⟨[]⟩)),(2,(i64 (v:Int))),(7,S),(8,(i64 (u:Int))),(15,(aC G 0 n cg)),(16,(i64 (n:Int))),(17,(i64 (u:Int))),(23,(i64 (m:Int)))]) M (.exit 2) T1 M/\ [0,1,2,7,15,16,17].map T1.get= [some (pt bB 0),some (.func (.func 64) ⟨[]⟩ ⟨[]⟩),some (i64 (v:Int)),some S,some (aC G 0 n cg),some (i64 (n:Int)),some (i64 (u:Int))]:=by
 exact Rd.told (tb:=[]) (n:=60) (F:=[aO 2]) aG aF (aI prog) (fun _ _=>rfl) (by kernel_rfl) (hk (bF a0) hn)
theorem aAe{bB C K G n ck cg:Nat}{c0 c1 c2 c3 c4 c5 cl:Value}{cur:List Int}{gone:List Bool}{v u:Nat}{S:Value}{l:List Int}{M0 M:aB}(hM:aA M)(X0:Ext M0 M)(a0:M0.get bB=some ⟨[c0,c1,c2,c3,c4,c5,pt C 0,aC G 0 n cg],56,8,0,true⟩)(a4:M0.get C=some ⟨[i64 n,aC K 0 cur.length ck,cl],79,3,0,true⟩)(a6:M0.get K=some ⟨cur.map i64,3,1,0,true⟩)(a5:M0.get G=some ⟨gone.map Value.bool,4,1,0,true⟩)(a1:n<=60)(a7:cur.length=n*n*5)(hv:v<n)(a8:gone.length=n)(hu:u<n)(hA:cR 3 1 M0 [bB,C,K,G] l.length (l.map i64) S M)(hl30:l.length<1000000):
  ∃S' M',bL prog [] (q62.loopAt 2) Tryz.f62.ntmps (fr [(0,pt bB 0),(1,(.func (.func 64) ⟨[]⟩ ⟨[]⟩)),(2,i64 v),(7,S),(8,i64 u),(15,aC G 0 n cg),(16,i64 n),(17,i64 u),(23,i64 ((0:Nat):Int))]) M (.exit 2) (fr [(0,pt bB 0),(1,(.func (.func 64) ⟨[]⟩ ⟨[]⟩)),(2,i64 v),(7,S'),(15,aC G 0 n cg),(16,i64 n),(17,i64 u)]) M'/\Ext M0 M'/\aA M'/\cR 3 1 M0 [bB,C,K,G] (l++gS n cur .inn v u 5).length ((l++gS n cur .inn v u 5).map i64) S' M':=by
 obtain⟨S',M',h1,h2,h3,h4⟩:=bL.for (P:=prog) (GL:= []) (b:=q62.loopAt 2) (nt:=Tryz.f62.ntmps) (id:=2) (σ:=Value) (n:=5) (Inv:=fun i S M1=>Ext M0 M1/\aA M1/\cR 3 1 M0 [bB,C,K,G] (l++gS n cur .inn v u i).length ((l++gS n cur .inn v u i).map i64) S M1)
  (F:=fun i S=> [(0,pt bB 0),(1,(.func (.func 64) ⟨[]⟩ ⟨[]⟩)),(2,i64 v),(7,S),(8,i64 u),(15,aC G 0 n cg),(16,i64 n),(17,i64 u),(23,i64 ((i:Nat):Int))])
  (O:=fun S=> [(0,pt bB 0),(1,(.func (.func 64) ⟨[]⟩ ⟨[]⟩)),(2,i64 v),(7,S),(15,aC G 0 n cg),(16,i64 n),(17,i64 u)])
  (by
   rintro i S M1 hi ⟨X1,a3,a2⟩
   have hln:=xZ n cur .inn v u i
   have a9:(l++gS n cur .inn v u i).length<1073741824:=by rw[List.length_append];omega
   cases hq:(aX cur (bK n .inn v u i))==(-1:Int) with
   |true=>
    obtain⟨T1,M2,h1,h2,h3,h4,h5⟩:=riIn bB C K G n ck cg c0 c1 c2 c3 c4 c5 cl cur gone v u i S (l++gS n cur .inn v u i) a3 X1 a0 a4 a6 a5 a1 a7 hv a8 hu a2 a9 (xAb (by omega)) hq
    rw[bD (by omega)] at h2
    refine⟨S,T1,M2,h1,h2,h3,h4,?_⟩
    rw[show gS n cur .inn v u (i+1)=gS n cur .inn v u i by rw[gS,hq];simp]
    exact h5
   |false=>
    obtain⟨T1,M2,S2,h1,h2,h3,h4,h5⟩:=riIa bB C K G n ck cg c0 c1 c2 c3 c4 c5 cl cur gone v u i S (l++gS n cur .inn v u i) a3 X1 a0 a4 a6 a5 a1 a7 hv a8 hu a2 a9 (xAb (by omega)) hq
    rw[bD (by omega)] at h2
    refine⟨S2,T1,M2,h1,h2,h3,h4,?_⟩
    rw[show l++gS n cur .inn v u (i+1)=(l++gS n cur .inn v u i)++ [aX cur (bK n .inn v u i)] by rw[gS,hq];simp,List.length_append (bs:= [_]),List.map_append]
    exact h5)
  (by
   rintro S M1 ⟨X1,a3,a2⟩
   exact riIx bB G n cg v u 5 S (M:=M1) (xAa (by omega)))
  5 0 (by omega) (s:=S) (M:=M) ⟨X0,hM,by simpa [gS] using hA⟩
 exact⟨S',M',h1,h2,h3,h4⟩
theorem roIg(bB C K G n ck cg:Nat)(c0 c1 c2 c3 c4 c5 cl:Value)(cur:List Int)(gone:List Bool)(v u:Nat)(S:Value)(l:List Int)(gq:Bool){M:aB}{M0:aB}(X0:Ext M0 M)(gbB0:M0.get bB=some ⟨[c0,c1,c2,c3,c4,c5,pt C 0,aC G 0 n cg],56,8,0,true⟩)(gC0:M0.get C=some ⟨[i64 n,aC K 0 cur.length ck,cl],79,3,0,true⟩)(gK0:M0.get K=some ⟨cur.map i64,3,1,0,true⟩)(a2:M0.get G=some ⟨gone.map Value.bool,4,1,0,true⟩)(hc60:n<=60)(hcl:cur.length=n*n*5)(hv:v<n)(hgl:gone.length=n)(hA:cR 3 1 M0 [bB,C,K,G] l.length (l.map i64) S M)(hl30:l.length<1000000)(a0:(decide ((u:Int)<(n:Int)))=true)(a1:(gq)=true)(a3:(gone.map Value.bool)[0+((u:Int):Int).toNat*1]?=some (.bool gq)): ∃T1,Rd prog [] (q62.loopAt 0) Tryz.f62.ntmps (fr [(0,(pt bB 0)),(1,(.func (.func 64) ⟨[]⟩ ⟨[]⟩)),(2,(i64 (v:Int))),(7,S),(15,(aC G 0 n cg)),(16,(i64 (n:Int))),(17,(i64 (u:Int)))]) M .normal T1 M/\ [0,1,2,7,15,16,17].map T1.get= [some (pt bB 0),some (.func (.func 64) ⟨[]⟩ ⟨[]⟩),some (i64 (v:Int)),some S,some (aC G 0 n cg),some (i64 (n:Int)),some (i64 (IntKind.wrap .i64 ((u:Int)+(1:Int))))]:=by
 have gG:=X0.old a2
 exact Rd.told (tb:=[]) (n:=60) (F:=[aQ 2,aQ 6,aR 8 (.bool gq),aQ 15]) aG aF (aI prog) (fun _ _=>rfl) (by kernel_rfl) (hk (bT a0) (hk (qI (u:Int) n (by omega) (by simp at a0;omega)) (hq (qL 4 G (0+((u:Int):Int).toNat*1) M (.bool gq)) (eO (bI (a:=⟨G,0+((u:Int):Int).toNat*1,none⟩) Sv gG a3)) (hk (bT a1) hn))))
theorem roIs(bB C K G n ck cg:Nat)(c0 c1 c2 c3 c4 c5 cl:Value)(cur:List Int)(gone:List Bool)(v u:Nat)(S:Value)(l:List Int)(gq:Bool){M M0:aB}(hM:aA M)(X0:Ext M0 M)(a1:M0.get bB=some ⟨[c0,c1,c2,c3,c4,c5,pt C 0,aC G 0 n cg],56,8,0,true⟩)(a6:M0.get C=some ⟨[i64 n,aC K 0 cur.length ck,cl],79,3,0,true⟩)(a7:M0.get K=some ⟨cur.map i64,3,1,0,true⟩)(a4:M0.get G=some ⟨gone.map Value.bool,4,1,0,true⟩)(a2:n<=60)(b1:cur.length=n*n*5)(hv:v<n)(b2:gone.length=n)(hA:cR 3 1 M0 [bB,C,K,G] l.length (l.map i64) S M)(a3:l.length<1000000)(a0:(decide ((u:Int)<(n:Int)))=true)(a5:(gq)=false)(b0:(gone.map Value.bool)[0+((u:Int):Int).toNat*1]?=some (.bool gq)): ∃T1 M' S1,Rd prog [] (q62.loopAt 0) Tryz.f62.ntmps (fr [(0,(pt bB 0)),(1,(.func (.func 64) ⟨[]⟩ ⟨[]⟩)),(2,(i64 (v:Int))),(7,S),(15,(aC G 0 n cg)),(16,(i64 (n:Int))),(17,(i64 (u:Int)))]) M .normal T1 M'/\ [0,1,2,7,15,16,17].map T1.get= [some (pt bB 0),some (.func (.func 64) ⟨[]⟩ ⟨[]⟩),some (i64 (v:Int)),some S1,some (aC G 0 n cg),some (i64 (n:Int)),some (i64 (IntKind.wrap .i64 ((u:Int)+(1:Int))))]/\Ext M0 M'/\aA M'/\cR 3 1 M0 [bB,C,K,G] (l++gS n cur .inn v u 5).length ((l++gS n cur .inn v u 5).map i64) S1 M':=by
 have gG:=X0.old a4
 obtain⟨S1,M2,a8,X4,a9,A6⟩:=aAe hM X0 a1 a6 a7 a4 a2 b1 hv b2 (u:=u) (by simp at a0;omega) hA a3
 obtain⟨T1,h1,h2⟩:=Rd.told (tb:=[2]) (n:=60) (F:=[aQ 2,aQ 6,aR 8 (.bool gq),aO 15,.blk 18 [0,1,2,7,8,15,16,17,23] .normal (fr [(0,(pt bB 0)),(1,(.func (.func 64) ⟨[]⟩ ⟨[]⟩)),(2,(i64 (v:Int))),(7,S1),(15,(aC G 0 n cg)),(16,(i64 (n:Int))),(17,(i64 (u:Int)))]) M2]) aG aF (fun B=>wR (gL B) 2 a8) (fun _ h=>bZ h) (by kernel_rfl) (hk (bT a0) (hk (qI (u:Int) n (by omega) (by simp at a0;omega)) (hq (qL 4 G (0+((u:Int):Int).toNat*1) M (.bool gq)) (eO (bI (a:=⟨G,0+((u:Int):Int).toNat*1,none⟩) Sv gG b0)) (hk (bF a5) (hq (.blk 2 (.loop (q62.loopAt 2)) Tryz.f62.ntmps [0,1,2,7,8,15,16,17,23] [some (pt bB 0),some (.func (.func 64) ⟨[]⟩ ⟨[]⟩),some (i64 (v:Int)),some S,some (i64 (u:Int)),some (aC G 0 n cg),some (i64 (n:Int)),some (i64 (u:Int)),some (i64 0)] M .normal (fr [(0,(pt bB 0)),(1,(.func (.func 64) ⟨[]⟩ ⟨[]⟩)),(2,(i64 (v:Int))),(7,S1),(15,(aC G 0 n cg)),(16,(i64 (n:Int))),(17,(i64 (u:Int)))]) M2) (fB rfl) hn)))))
 exact⟨T1,M2,S1,h1,h2,X4,a9,A6⟩
theorem roIx(bB C K G n ck cg:Nat)(c0 c1 c2 c3 c4 c5 cl:Value)(cur:List Int)(gone:List Bool)(v u:Nat)(S:Value){M:aB}{M0:aB}(X0:Ext M0 M)(gbB0:M0.get bB=some ⟨[c0,c1,c2,c3,c4,c5,pt C 0,aC G 0 n cg],56,8,0,true⟩)(gC0:M0.get C=some ⟨[i64 n,aC K 0 cur.length ck,cl],79,3,0,true⟩)(gK0:M0.get K=some ⟨cur.map i64,3,1,0,true⟩)(gG0:M0.get G=some ⟨gone.map Value.bool,4,1,0,true⟩)(a0:(decide ((u:Int)<(n:Int)))=false): ∃T1,Rd prog [] (q62.loopAt 0) Tryz.f62.ntmps (fr [(0,(pt bB 0)),(1,(.func (.func 64) ⟨[]⟩ ⟨[]⟩)),(2,(i64 (v:Int))),(7,S),(15,(aC G 0 n cg)),(16,(i64 (n:Int))),(17,(i64 (u:Int)))]) M (.exit 0) T1 M/\ [7].map T1.get= [some S]:=by
 exact Rd.told (tb:=[]) (n:=60) (F:=[aO 2]) aG aF (aI prog) (fun _ _=>rfl) (by kernel_rfl) (hk (bF a0) hn)
open Tryz
theorem Vu:(prog.underlying 54).map dV=some false:=by kernel_rfl
theorem sU{M M':aB}{bad:List Nat}{l:List Int}{S:Value}(h:cR 3 1 M bad l.length (l.map i64) S M')(hl:l.length<=9223372036854775807):aH l S (hid M.next M'):=by
 rcases h with⟨rfl,h0,_⟩|⟨b,rfl,_,_,h3,h5,h6⟩
 ·rw[List.eq_nil_of_length_eq_zero h0];exact aJ.nil none
 ·exact aJ.of_blk' (jJ h3 h6) rfl (xJ l).symm (fun _ _=>rfl) hl
theorem aAi{bB C K G n ck cg:Nat}{c0 c1 c2 c3 c4 c5 cl:Value}{cur:List Int}{gone:List Bool}{v:Nat}{M0 M:aB}(hM:aA M)(X0:Ext M0 M)(a0:M0.get bB=some ⟨[c0,c1,c2,c3,c4,c5,pt C 0,aC G 0 n cg],56,8,0,true⟩)(a4:M0.get C=some ⟨[i64 n,aC K 0 cur.length ck,cl],79,3,0,true⟩)(a6:M0.get K=some ⟨cur.map i64,3,1,0,true⟩)(a5:M0.get G=some ⟨gone.map Value.bool,4,1,0,true⟩)(a1:n<=60)(a8:cur.length=n*n*5)(hv:v<n)(a9:gone.length=n):
  ∃S' M',bL prog [] (q62.loopAt 0) Tryz.f62.ntmps (fr [(0,pt bB 0),(1,(.func (.func 63) ⟨[]⟩ ⟨[]⟩)),(2,i64 v),(7,eW),(15,aC G 0 n cg),(16,i64 n),(17,i64 ((0:Nat):Int))]) M (.exit 0) (fr [(7,S')]) M'/\Ext M0 M'/\aA M'/\cR 3 1 M0 [bB,C,K,G] (eP n cur gone .out v n).length ((eP n cur gone .out v n).map i64) S' M':=by
 obtain⟨S',M',h1,h2,h3,h4⟩:=bL.for (P:=prog) (GL:= []) (b:=q62.loopAt 0) (nt:=Tryz.f62.ntmps) (id:=0) (σ:=Value) (n:=n) (Inv:=fun i S M1=>Ext M0 M1/\aA M1/\cR 3 1 M0 [bB,C,K,G] (eP n cur gone .out v i).length ((eP n cur gone .out v i).map i64) S M1)
  (F:=fun i S=> [(0,pt bB 0),(1,(.func (.func 63) ⟨[]⟩ ⟨[]⟩)),(2,i64 v),(7,S),(15,aC G 0 n cg),(16,i64 n),(17,i64 ((i:Nat):Int))])
  (O:=fun S=> [(7,S)])
  (by
   rintro i S M1 hi ⟨X1,a7,a2⟩
   have hln:=lU n cur gone .out v i
   have b0:gone[i]?=some (cH gone i):=by unfold cH;rw[xAe (by omega)];rfl
   have a3:(gone.map Value.bool)[0+((i:Int):Int).toNat*1]?=some (.bool (cH gone i)):=by simp [b0]
   cases hq:cH gone i with
   |true=>
    rw[hq] at a3
    obtain⟨T1,h1,h2⟩:=roOg bB C K G n ck cg c0 c1 c2 c3 c4 c5 cl cur gone v i S (eP n cur gone .out v i) true (M:=M1) X1 a0 a4 a6 a5 a1 a8 hv a9 a2 (by omega) (xAb (by omega)) rfl a3
    rw[bD (by omega)] at h2
    refine⟨S,T1,M1,h1,h2,X1,a7,?_⟩
    rw[show eP n cur gone .out v (i+1)=eP n cur gone .out v i by rw[eP,hq];simp]
    exact a2
   |false=>
    rw[hq] at a3
    obtain⟨T1,M2,S2,h1,h2,h3,h4,h5⟩:=roOs bB C K G n ck cg c0 c1 c2 c3 c4 c5 cl cur gone v i S (eP n cur gone .out v i) false a7 X1 a0 a4 a6 a5 a1 a8 hv a9 a2 (by omega) (xAb (by omega)) rfl a3
    rw[bD (by omega)] at h2
    refine⟨S2,T1,M2,h1,h2,h3,h4,?_⟩
    rw[show eP n cur gone .out v (i+1)=eP n cur gone .out v i++gS n cur .out v i 5 by rw[eP,hq];simp]
    exact h5)
  (by
   rintro S M1 ⟨X1,a7,a2⟩
   exact roOx bB C K G n ck cg c0 c1 c2 c3 c4 c5 cl cur gone v n S (M:=M1) X1 a0 a4 a6 a5 (xAa (by omega)))
  n 0 (by omega) (s:=eW) (M:=M) ⟨X0,hM,.inl ⟨rfl,rfl,rfl⟩⟩
 exact⟨S',M',h1,h2,h3,h4⟩
theorem rK62:Tryz.f62.results= #[.tmp 6]:=by kernel_rfl
theorem hw55O(bB C K G n ck cg:Nat)(c0 c1 c2 c3 c4 c5 cl:Value)(cur:List Int)(gone:List Bool)(v:Nat){M:aB}(hM:aA M)(a0:M.get bB=some ⟨[c0,c1,c2,c3,c4,c5,pt C 0,aC G 0 n cg],56,8,0,true⟩)(a2:M.get C=some ⟨[i64 n,aC K 0 cur.length ck,cl],79,3,0,true⟩)(a4:M.get K=some ⟨cur.map i64,3,1,0,true⟩)(a3:M.get G=some ⟨gone.map Value.bool,4,1,0,true⟩)(a1:n<=60)(a8:cur.length=n*n*5)(hv:v<n)(a9:gone.length=n): ∃v_ M',Ev prog [] 62 [pt bB 0,.func (.func 63) ⟨[]⟩ ⟨[]⟩,i64 v] M v_ M'/\Ext M M'/\aA M'/\iE aH (cQ n cur gone .out v) M.next v_ M':=by
 have a5:=a0
 obtain⟨S1,M2,a6,X4,a7,A6⟩:=aAi hM (Ext.refl M) a0 a2 a4 a3 a1 a8 hv a9
 exact⟨S1,M2,Ev.told_tmp (tb:=[0]) (n:=60) (F:=[aR 11 (aC G 0 n cg),.blk 16 [0,1,2,7,15,16,17] .normal (fr [(7,S1)]) M2]) aG aF Tryz.func62 Uq (by kernel_rfl) rK62 (fun B=>wR (gL B) 0 a6) (fun _ h=>bZ h) (by kernel_rfl) (hk (lO 7 Vu a5 rfl) (hq (.blk 0 (.loop (q62.loopAt 0)) Tryz.f62.ntmps [0,1,2,7,15,16,17] [some (pt bB 0),some (.func (.func 63) ⟨[]⟩ ⟨[]⟩),some (i64 (v:Int)),some eW,some (aC G 0 n cg),some (i64 (n:Int)),some (i64 0)] M .normal (fr [(7,S1)]) M2) (fB rfl) hn)),X4,a7,sU A6 (by have h9:(cQ n cur gone .out v).length<=5*n:=lU n cur gone .out v n;omega)⟩
theorem aAh{bB C K G n ck cg:Nat}{c0 c1 c2 c3 c4 c5 cl:Value}{cur:List Int}{gone:List Bool}{v:Nat}{M0 M:aB}(hM:aA M)(X0:Ext M0 M)(a0:M0.get bB=some ⟨[c0,c1,c2,c3,c4,c5,pt C 0,aC G 0 n cg],56,8,0,true⟩)(a4:M0.get C=some ⟨[i64 n,aC K 0 cur.length ck,cl],79,3,0,true⟩)(a6:M0.get K=some ⟨cur.map i64,3,1,0,true⟩)(a5:M0.get G=some ⟨gone.map Value.bool,4,1,0,true⟩)(a1:n<=60)(a8:cur.length=n*n*5)(hv:v<n)(a9:gone.length=n):
  ∃S' M',bL prog [] (q62.loopAt 0) Tryz.f62.ntmps (fr [(0,pt bB 0),(1,(.func (.func 64) ⟨[]⟩ ⟨[]⟩)),(2,i64 v),(7,eW),(15,aC G 0 n cg),(16,i64 n),(17,i64 ((0:Nat):Int))]) M (.exit 0) (fr [(7,S')]) M'/\Ext M0 M'/\aA M'/\cR 3 1 M0 [bB,C,K,G] (eP n cur gone .inn v n).length ((eP n cur gone .inn v n).map i64) S' M':=by
 obtain⟨S',M',h1,h2,h3,h4⟩:=bL.for (P:=prog) (GL:= []) (b:=q62.loopAt 0) (nt:=Tryz.f62.ntmps) (id:=0) (σ:=Value) (n:=n) (Inv:=fun i S M1=>Ext M0 M1/\aA M1/\cR 3 1 M0 [bB,C,K,G] (eP n cur gone .inn v i).length ((eP n cur gone .inn v i).map i64) S M1)
  (F:=fun i S=> [(0,pt bB 0),(1,(.func (.func 64) ⟨[]⟩ ⟨[]⟩)),(2,i64 v),(7,S),(15,aC G 0 n cg),(16,i64 n),(17,i64 ((i:Nat):Int))])
  (O:=fun S=> [(7,S)])
  (by
   rintro i S M1 hi ⟨X1,a7,a2⟩
   have hln:=lU n cur gone .inn v i
   have b0:gone[i]?=some (cH gone i):=by unfold cH;rw[xAe (by omega)];rfl
   have a3:(gone.map Value.bool)[0+((i:Int):Int).toNat*1]?=some (.bool (cH gone i)):=by simp [b0]
   cases hq:cH gone i with
   |true=>
    rw[hq] at a3
    obtain⟨T1,h1,h2⟩:=roIg bB C K G n ck cg c0 c1 c2 c3 c4 c5 cl cur gone v i S (eP n cur gone .inn v i) true (M:=M1) X1 a0 a4 a6 a5 a1 a8 hv a9 a2 (by omega) (xAb (by omega)) rfl a3
    rw[bD (by omega)] at h2
    refine⟨S,T1,M1,h1,h2,X1,a7,?_⟩
    rw[show eP n cur gone .inn v (i+1)=eP n cur gone .inn v i by rw[eP,hq];simp]
    exact a2
   |false=>
    rw[hq] at a3
    obtain⟨T1,M2,S2,h1,h2,h3,h4,h5⟩:=roIs bB C K G n ck cg c0 c1 c2 c3 c4 c5 cl cur gone v i S (eP n cur gone .inn v i) false a7 X1 a0 a4 a6 a5 a1 a8 hv a9 a2 (by omega) (xAb (by omega)) rfl a3
    rw[bD (by omega)] at h2
    refine⟨S2,T1,M2,h1,h2,h3,h4,?_⟩
    rw[show eP n cur gone .inn v (i+1)=eP n cur gone .inn v i++gS n cur .inn v i 5 by rw[eP,hq];simp]
    exact h5)
  (by
   rintro S M1 ⟨X1,a7,a2⟩
   exact roIx bB C K G n ck cg c0 c1 c2 c3 c4 c5 cl cur gone v n S (M:=M1) X1 a0 a4 a6 a5 (xAa (by omega)))
  n 0 (by omega) (s:=eW) (M:=M) ⟨X0,hM,.inl ⟨rfl,rfl,rfl⟩⟩
 exact⟨S',M',h1,h2,h3,h4⟩
theorem hw55I(bB C K G n ck cg:Nat)(c0 c1 c2 c3 c4 c5 cl:Value)(cur:List Int)(gone:List Bool)(v:Nat){M:aB}(hM:aA M)(a0:M.get bB=some ⟨[c0,c1,c2,c3,c4,c5,pt C 0,aC G 0 n cg],56,8,0,true⟩)(a2:M.get C=some ⟨[i64 n,aC K 0 cur.length ck,cl],79,3,0,true⟩)(a4:M.get K=some ⟨cur.map i64,3,1,0,true⟩)(a3:M.get G=some ⟨gone.map Value.bool,4,1,0,true⟩)(a1:n<=60)(a8:cur.length=n*n*5)(hv:v<n)(a9:gone.length=n): ∃v_ M',Ev prog [] 62 [pt bB 0,.func (.func 64) ⟨[]⟩ ⟨[]⟩,i64 v] M v_ M'/\Ext M M'/\aA M'/\iE aH (cQ n cur gone .inn v) M.next v_ M':=by
 have a5:=a0
 obtain⟨S1,M2,a6,X4,a7,A6⟩:=aAh hM (Ext.refl M) a0 a2 a4 a3 a1 a8 hv a9
 exact⟨S1,M2,Ev.told_tmp (tb:=[0]) (n:=60) (F:=[aR 11 (aC G 0 n cg),.blk 16 [0,1,2,7,15,16,17] .normal (fr [(7,S1)]) M2]) aG aF Tryz.func62 Uq (by kernel_rfl) rK62 (fun B=>wR (gL B) 0 a6) (fun _ h=>bZ h) (by kernel_rfl) (hk (lO 7 Vu a5 rfl) (hq (.blk 0 (.loop (q62.loopAt 0)) Tryz.f62.ntmps [0,1,2,7,15,16,17] [some (pt bB 0),some (.func (.func 64) ⟨[]⟩ ⟨[]⟩),some (i64 (v:Int)),some eW,some (aC G 0 n cg),some (i64 (n:Int)),some (i64 0)] M .normal (fr [(7,S1)]) M2) (fB rfl) hn)),X4,a7,sU A6 (by have h9:(cQ n cur gone .inn v).length<=5*n:=lU n cur gone .inn v n;omega)⟩
open Tryz
def Yl:Go.Am.wV->FuncId
 | .out=>63
 | .inn=>64
def Ix(w:Go.Am.wV)(v:Value)(_:aB):Prop:=v= .func (.func (Yl w)) ⟨[]⟩ ⟨[]⟩
instance:AP Ix:=⟨fun{x y v _} h k=>by unfold Ix at h k;rw[h] at k;cases x<;>cases y<;>first|rfl|(simp [Yl] at k),fun _ h=>h⟩
abbrev Q62:=FC (gN (Vr pBr Ix pN) fun x:(Nat×List Int×List Bool)×Go.Am.wV×Nat=>x.1.1<=60/\x.1.2.1.length=x.1.1*x.1.1*5/\x.2.2<x.1.1/\x.1.2.2.length=x.1.1) (iE aH) (fun x=>cQ x.1.1 x.1.2.1 x.1.2.2 x.2.1 x.2.2)
theorem Sp{x:(Nat×List Int×List Bool)×Go.Am.wV×Nat}{lv:List Value}{M:aB}(hM:aA M)(h:(gN (Vr pBr Ix pN) fun x:(Nat×List Int×List Bool)×Go.Am.wV×Nat=>x.1.1<=60/\x.1.2.1.length=x.1.1*x.1.1*5/\x.2.2<x.1.1/\x.1.2.2.length=x.1.1) x lv M): ∃v M',kR prog [] 62 Q62 lv M v M':=by
 refine FC.con h ?_
 obtain⟨⟨g0,g1,g2,rfl,k0,k1,k2⟩,h1,h2,h3,h4⟩:=h
 obtain⟨⟨n,cur,gone⟩,w,v⟩:=x
 obtain rfl:=k1
 obtain rfl:=k2
 obtain⟨bB,C,G,cg,c0,c1,c2,c3,c4,c5,rfl,gB,⟨C',K,ck,cl,e,gC,gK⟩,gG⟩:=k0
 simp only [pt,Value.pointer.injEq,Option.some.injEq,Addr.mk.injEq,and_true] at e
 subst e
 cases w with
 |out=>
  obtain⟨v',M',q1,q2,_,q3⟩:=hw55O bB C K G n ck cg c0 c1 c2 c3 c4 c5 cl cur gone v hM gB gC gK gG h1 h2 h3 h4
  exact⟨v',M',q1,q2,q3⟩
 |inn=>
  obtain⟨v',M',q1,q2,_,q3⟩:=hw55I bB C K G n ck cg c0 c1 c2 c3 c4 c5 cl cur gone v hM gB gC gK gG h1 h2 h3 h4
  exact⟨v',M',q1,q2,q3⟩
end Go.Proofs.YtdaglldahidmbaaGreat
