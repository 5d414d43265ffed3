/-
  Package hier: each of its laws for every argument; no conditions. The last text states which.
-/
import Derived.Test.YtdaglldahidmbaaGreatGAmMemo
import Derived.Test.YtdaglldahidmbaaGreatGAmTn
import Derived.Test.YtdaglldahidmbaaGreatGVB
import Derived.Test.YtdaglldahidmbaaGreatGVPC
set_option linter.unusedVariables false
set_option linter.unusedSimpArgs false
open Go Go.Am Go.Proofs Tryz
namespace Go.Proofs.YtdaglldahidmbaaGreat
set_option maxRecDepth 100000
def Kr(k:Nat):Rj:=⟨[aC 0 0 1 2,i64 k],[⟨[i64 (-1)],3,1,0,true⟩],aC 1 0 k (k+1),[1],[⟨List.replicate k (i64 (-1)),3,1,0,true⟩]⟩
def cO(k:Nat):Prop:=Ia prog (uG [] []) 300 51 (Kr k)=some ((Kr k).v0,(Kr k).news.map some,true)
theorem rp1:cO 1/\cO (1*1*5):=⟨by unfold cO;kernel_rfl,by unfold cO;kernel_rfl⟩
theorem rp2:cO 2/\cO (2*2*5):=⟨by unfold cO;kernel_rfl,by unfold cO;kernel_rfl⟩
theorem rp3:cO 3/\cO (3*3*5):=⟨by unfold cO;kernel_rfl,by unfold cO;kernel_rfl⟩
theorem rp4:cO 4/\cO (4*4*5):=⟨by unfold cO;kernel_rfl,by unfold cO;kernel_rfl⟩
theorem rp5:cO 5/\cO (5*5*5):=⟨by unfold cO;kernel_rfl,by unfold cO;kernel_rfl⟩
theorem rp6:cO 6/\cO (6*6*5):=⟨by unfold cO;kernel_rfl,by unfold cO;kernel_rfl⟩
theorem rp7:cO 7/\cO (7*7*5):=⟨by unfold cO;kernel_rfl,by unfold cO;kernel_rfl⟩
theorem rp8:cO 8/\cO (8*8*5):=⟨by unfold cO;kernel_rfl,by unfold cO;kernel_rfl⟩
theorem rp9:cO 9/\cO (9*9*5):=⟨by unfold cO;kernel_rfl,by unfold cO;kernel_rfl⟩
theorem rp10:cO 10/\cO (10*10*5):=⟨by unfold cO;kernel_rfl,by unfold cO;kernel_rfl⟩
theorem rp11:cO 11/\cO (11*11*5):=⟨by unfold cO;kernel_rfl,by unfold cO;kernel_rfl⟩
theorem rp12:cO 12/\cO (12*12*5):=⟨by unfold cO;kernel_rfl,by unfold cO;kernel_rfl⟩
theorem rp13:cO 13/\cO (13*13*5):=⟨by unfold cO;kernel_rfl,by unfold cO;kernel_rfl⟩
theorem rp14:cO 14/\cO (14*14*5):=⟨by unfold cO;kernel_rfl,by unfold cO;kernel_rfl⟩
theorem rp15:cO 15/\cO (15*15*5):=⟨by unfold cO;kernel_rfl,by unfold cO;kernel_rfl⟩
theorem rp16:cO 16/\cO (16*16*5):=⟨by unfold cO;kernel_rfl,by unfold cO;kernel_rfl⟩
theorem rp17:cO 17/\cO (17*17*5):=⟨by unfold cO;kernel_rfl,by unfold cO;kernel_rfl⟩
theorem rp18:cO 18/\cO (18*18*5):=⟨by unfold cO;kernel_rfl,by unfold cO;kernel_rfl⟩
theorem rp19:cO 19/\cO (19*19*5):=⟨by unfold cO;kernel_rfl,by unfold cO;kernel_rfl⟩
theorem rp20:cO 20/\cO (20*20*5):=⟨by unfold cO;kernel_rfl,by unfold cO;kernel_rfl⟩
theorem rp21:cO 21/\cO (21*21*5):=⟨by unfold cO;kernel_rfl,by unfold cO;kernel_rfl⟩
theorem rp22:cO 22/\cO (22*22*5):=⟨by unfold cO;kernel_rfl,by unfold cO;kernel_rfl⟩
theorem rp23:cO 23/\cO (23*23*5):=⟨by unfold cO;kernel_rfl,by unfold cO;kernel_rfl⟩
theorem rp24:cO 24/\cO (24*24*5):=⟨by unfold cO;kernel_rfl,by unfold cO;kernel_rfl⟩
theorem Us(n:Nat)(h:1<=n/\n<=24):cO n/\cO (n*n*5):=by
 have h2:n=1\/n=2\/n=3\/n=4\/n=5\/n=6\/n=7\/n=8\/n=9\/n=10\/n=11\/n=12\/n=13\/n=14\/n=15\/n=16\/n=17\/n=18\/n=19\/n=20\/n=21\/n=22\/n=23\/n=24:=by omega
 rcases h2 with rfl|rfl|rfl|rfl|rfl|rfl|rfl|rfl|rfl|rfl|rfl|rfl|rfl|rfl|rfl|rfl|rfl|rfl|rfl|rfl|rfl|rfl|rfl|rfl
 ·exact rp1
 ·exact rp2
 ·exact rp3
 ·exact rp4
 ·exact rp5
 ·exact rp6
 ·exact rp7
 ·exact rp8
 ·exact rp9
 ·exact rp10
 ·exact rp11
 ·exact rp12
 ·exact rp13
 ·exact rp14
 ·exact rp15
 ·exact rp16
 ·exact rp17
 ·exact rp18
 ·exact rp19
 ·exact rp20
 ·exact rp21
 ·exact rp22
 ·exact rp23
 ·exact rp24
open Tryz
theorem gm{b k:Nat}{M:aB}(hg:M.get b=some ⟨[i64 (-1)],3,1,0,true⟩):Kh (Kr k) [aC b 0 1 2,i64 k] M=some (aC M.next 0 k (k+1),M.alloc ⟨List.replicate k (i64 (-1)),3,1,0,true⟩):=by
 have h1:vR [aC b 0 1 2,i64 k]=[b]:=rfl;have t1:jV (rH 0 [b]) b=some 0:=by simp [rH,jV,Nat.beq_refl]
 have h2:kV (rH 0 [b]) [aC b 0 1 2,i64 k]=some (Kr k).args0:=by
  simp only [kV,mP,nH,t1];rfl
 have h3:Em (Kr k).args0 (Kr k).args0=true:=by
  simp only [Kr,Em,Gy,Bw,i64,Nat.beq_refl];simp
 have h4:rZ M [b] (Kr k).blks=true:=by
  simp only [Kr,rZ,hg];rfl
 have t2:jV (lX M.next (Kr k).newsS) 1=some M.next:=by simp [Kr,lX,jV]
 have h5:mP (lX M.next (Kr k).newsS) (Kr k).v0=some (aC M.next 0 k (k+1)):=by
  show mP (lX M.next (Kr k).newsS) (aC 1 0 k (k+1))=_;simp only [mP,nH,t2]
 unfold Kh;rw[h1,h2,h4,h5];show(bif Go.Am.iR [b]&&Em (Kr k).args0 (Kr k).args0&&true then _ else none)=_;rw[h3];rfl
def pRep(k nx:Nat)(v:Value)(M:aB):Prop:=∃b,v=aC b 0 k (k+1)/\nx<=b/\M.get b=some ⟨List.replicate k (i64 (-1)),3,1,0,true⟩
instance:AQ pRep:=⟨fun hE ⟨b,h1,h2,h3⟩=>⟨b,h1,h2,hE _ _ h3⟩⟩
def aAj(_:Unit)(v:Value)(M:aB):Prop:=∃b,v=aC b 0 1 2/\M.get b=some ⟨[i64 (-1)],3,1,0,true⟩
instance:AP aAj:=⟨fun _ _=>rfl,fun hE ⟨b,h1,h2⟩=>⟨b,h1,hE _ _ h2⟩⟩
theorem kr_st(k:Nat):Ib (Kr k)=true:=by
 have:dU (List.replicate k (i64 (-1)))=true:=by
  induction k with
  |zero=>rfl
  |succ k ih=>rw[List.replicate_succ];simp only [dU,ih,i64];rfl
 unfold Ib Kr;simp only [yZ,this];rfl
def Xu(k:Nat):Prop:=∃n,(1<=n/\n<=24)/\(k=n\/k=n*n*5)
abbrev Q51:=FC (hJ (lT aAj pN) fun x=>Xu x.2) pRep (fun x=>x.2)
theorem Si{x:Unit×Nat}{lv:List Value}{M:aB}(hM:aA M)(h:(hJ (lT aAj pN) fun x=>Xu x.2) x lv M):∃v M',lK prog [] 51 Q51 lv M v M':=by
 refine FC.con h ?_;obtain⟨⟨g0,g1,rfl,k0,k1⟩,n,hn,hk⟩:=h;obtain⟨_,k⟩:=x;obtain rfl:=k1;obtain⟨b,rfl,hg⟩:=k0;simp only at hk;have hr:cO k:=by exact hk.elim (fun e=>e▸(Us _ hn).1) (fun e=>e▸(Us _ hn).2)
 have hs:∀B,dR prog [] B 51 (Kh (Kr k)):=fun B=>dR.memo gW gV (Kr k) (aD prog) (kr_st k) hr
 exact⟨_,_,Ev.of_spec hs (gm hg),Ext.alloc M _,M.next,rfl,Nat.le_refl _,mW hM _ rfl⟩
open Tryz
theorem rK84:Tryz.f84.results= #[.tmp 8]:=by kernel_rfl
theorem w72(C K c n:Nat)(cl:Value)(cur:List Int)(f t m:Int){M:aB}(hM:aA M)(gC:M.get C=some ⟨[i64 n,aC K 0 cur.length c,cl],79,3,0,true⟩)(gK:M.get K=some ⟨cur.map i64,3,1,0,true⟩):∃v_ M',Ev prog [] 84 [pt C 0,i64 f,i64 t,i64 m] M v_ M'/\Ext M M'/\aA M'/\v_=(i64 (IntKind.wrap .i64 ((IntKind.wrap .i64 ((IntKind.wrap .i64 ((IntKind.wrap .i64 (f*(n:Int)))+t))*(5:Int)))+m))):=by exact⟨i64 (IntKind.wrap .i64 ((IntKind.wrap .i64 ((IntKind.wrap .i64 ((IntKind.wrap .i64 (f*(n:Int)))+t))*(5:Int)))+m)),M,kA 60 [aL 11 (i64 (n:Int))] Tryz.func84 q84_ok rK84 (aD prog) (hk (lO 0 bU gC rfl) hn),Ext.refl M,hM,rfl⟩
abbrev Vd:=FC (hJ (Vg (qU 79) pI pI pI) fun x:(Nat×List Int)×Int×Int×Int=>x.1.1<=60/\(0<=x.2.1/\x.2.1<x.1.1)/\(0<=x.2.2.1/\x.2.2.1<x.1.1)/\(0<=x.2.2.2/\x.2.2.2<5)) (plain pI) (fun x=>bP x.1.1 x.2.1 x.2.2.1 x.2.2.2)
theorem Ga{x:(Nat×List Int)×Int×Int×Int}{lv:List Value}{M:aB}(hM:aA M)(h:(hJ (Vg (qU 79) pI pI pI) fun x:(Nat×List Int)×Int×Int×Int=>x.1.1<=60/\(0<=x.2.1/\x.2.1<x.1.1)/\(0<=x.2.2.1/\x.2.2.1<x.1.1)/\(0<=x.2.2.2/\x.2.2.2<5)) x lv M):∃v M',lK prog [] 84 Vd lv M v M':=by refine FC.con h ?_;obtain⟨⟨g0,g1,g2,g3,rfl,k0,k1,k2,k3⟩,a0⟩:=h;obtain⟨⟨n,cur⟩,f,t,m⟩:=x;obtain rfl:=k1;obtain rfl:=k2;obtain rfl:=k3;obtain⟨C,K,c,cl,rfl,gC,gK⟩:=k0;obtain⟨v,M',h1,h2,_,h3⟩:=w72 C K c n cl cur f t m hM gC gK;exact⟨v,M',h1,h2,by rw[h3,Pd a0.1 a0.2.1 a0.2.2.1 a0.2.2.2];rfl⟩
theorem rK63:Tryz.f63.results= #[.tmp 8]:=by kernel_rfl
theorem w56(C K c n v u m:Nat)(cl:Value)(cur:List Int)(z:Int){M:aB}(hM:aA M)(gC:M.get C=some ⟨[i64 n,aC K 0 cur.length c,cl],79,3,0,true⟩)(gK:M.get K=some ⟨cur.map i64,3,1,0,true⟩)(c2:n<=60/\(0<=(v:Int)/\(v:Int)<(n:Int))/\(0<=(u:Int)/\(u:Int)<(n:Int))/\(0<=(m:Int)/\(m:Int)<5))(b4:0<=(bP (n:Int) (v:Int) (u:Int) (m:Int):Int)/\(bP (n:Int) (v:Int) (u:Int) (m:Int):Int)<cur.length)(c1:(cur.map i64)[0+(bP (n:Int) (v:Int) (u:Int) (m:Int):Int).toNat*1]?=some (i64 z)):∃v_ M',Ev prog [] 63 [pt C 0,i64 v,i64 u,i64 m] M v_ M'/\Ext M M'/\aA M'/\v_=i64 z:=by
 obtain⟨R1,a2⟩:=uR M M [];have X3:Ext (aB.mk M.blks M.next M.hide []) R1:=by rw[a2];exact Ext.aside (Ext.refl M)
 have c4:R1.log=[]:=by rw[a2]
 have c0:=uS a2 hM;have a9:=aB.lt_of_get gC;have g6:=aV a2 gC;have g7:=aV a2 gK;obtain⟨w8,N9,a0,c5,c3,b3,b0,a6,b6⟩:=aJ (x:=((n,cur),(v:Int),(u:Int),(m:Int))) c0 Ga (⟨⟨_,_,_,_,rfl,⟨C,K,c,cl,rfl,g6,g7⟩,rfl,rfl,rfl⟩,c2⟩);have b9:=b0.old g7;have b8:w8=i64 (bP (n:Int) (v:Int) (u:Int) (m:Int)):=b6;subst b8;have a8:a0.log=[]:=by rw[<-b3];exact c4
 have b2:=X3.trans b0;obtain⟨b1,a1⟩:∃m:aB,m=(aB.mk a0.blks a0.next a0.hide (a0.log++M.log)):=⟨_,rfl⟩;have b7:Ext M b1:=by rw[a1];exact Ext.join (Ext.refl M) (b2)
 have a7:aA b1:=by rw[a1];exact a6
 have b5:M.hide=a0.hide:=((Ext.refl M).hide.trans (b2).hide.symm);obtain⟨a4,a5,M10h,a3⟩:=a0;try dsimp only at b5
 subst b5;subst a2;subst a1;try dsimp only at *
 exact⟨i64 z,_,kA 60 [aL 9 (aC K 0 cur.length c),bL 19 (i64 (bP (n:Int) (v:Int) (u:Int) (m:Int))) (aB.mk a4 a5 M.hide a3),aI 21,aL 23 (i64 z)] Tryz.func63 q63_ok rK63 (fun B=>jL (fH 84 Vd (eZ _))) (hk (lO 1 jJ g6 rfl) (hk (fQ a9) (hk (qc 84 b3 c5 c3) (hk (qI (bP (n:Int) (v:Int) (u:Int) (m:Int)) cur.length b4.1 b4.2) (hk (lD (aY (a:=⟨K,0+(bP (n:Int) (v:Int) (u:Int) (m:Int):Int).toNat*1,none⟩) bU b9 c1)) (hq (qT (bZ [C] a3)) (cH (by rw[a8];simp<;>omega)) hn)))))),b7,a7,rfl⟩
abbrev Q63:=FC (hJ (Vg (qU 79) pN pN pN) fun x:(Nat×List Int)×Nat×Nat×Nat=>x.1.1<=60/\x.1.2.length=x.1.1*x.1.1*5/\x.2.1<x.1.1/\x.2.2.1<x.1.1/\x.2.2.2<5) (plain pI) (fun x=>aK x.1.2 (aU x.1.1 .out x.2.1 x.2.2.1 x.2.2.2))
theorem Xj{x:(Nat×List Int)×Nat×Nat×Nat}{lv:List Value}{M:aB}(hM:aA M)(h:(hJ (Vg (qU 79) pN pN pN) fun x:(Nat×List Int)×Nat×Nat×Nat=>x.1.1<=60/\x.1.2.length=x.1.1*x.1.1*5/\x.2.1<x.1.1/\x.2.2.1<x.1.1/\x.2.2.2<5) x lv M):∃v M',lK prog [] 63 Q63 lv M v M':=by
 refine FC.con h ?_;obtain⟨⟨g0,g1,g2,g3,rfl,k0,k1,k2,k3⟩,hn,hl,hv,hu,hm⟩:=h;obtain⟨⟨n,cur⟩,v,u,m⟩:=x;obtain rfl:=k1;obtain rfl:=k2;obtain rfl:=k3;obtain⟨C,K,c,cl,rfl,gC,gK⟩:=k0;simp only at hn hl hv hu hm gC gK;have hk:=iU (w:= .out) hv hu hm;have hs:=eL (cur:=cur) (by rw[hl];exact hk);have e0:bP (n:Int) (v:Int) (u:Int) (m:Int)=((aU n .out v u m:Nat):Int):=by unfold aU bP;push_cast;rfl
 obtain⟨v',M',h1,h2,_,h3⟩:=w56 C K c n v u m cl cur (aK cur (aU n .out v u m)) hM gC gK ⟨hn,by omega,by omega,by omega⟩ (by rw[e0];omega) (by rw[e0];simp [hs]);exact⟨v',M',h1,h2,h3⟩
theorem rK64:Tryz.f64.results= #[.tmp 8]:=by kernel_rfl
theorem w57(C K c n v u m:Nat)(cl:Value)(cur:List Int)(z:Int){M:aB}(hM:aA M)(gC:M.get C=some ⟨[i64 n,aC K 0 cur.length c,cl],79,3,0,true⟩)(gK:M.get K=some ⟨cur.map i64,3,1,0,true⟩)(c2:n<=60/\(0<=(u:Int)/\(u:Int)<(n:Int))/\(0<=(v:Int)/\(v:Int)<(n:Int))/\(0<=(m:Int)/\(m:Int)<5))(b4:0<=(bP (n:Int) (u:Int) (v:Int) (m:Int):Int)/\(bP (n:Int) (u:Int) (v:Int) (m:Int):Int)<cur.length)(c1:(cur.map i64)[0+(bP (n:Int) (u:Int) (v:Int) (m:Int):Int).toNat*1]?=some (i64 z)):∃v_ M',Ev prog [] 64 [pt C 0,i64 v,i64 u,i64 m] M v_ M'/\Ext M M'/\aA M'/\v_=i64 z:=by
 obtain⟨R1,a2⟩:=uR M M [];have X3:Ext (aB.mk M.blks M.next M.hide []) R1:=by rw[a2];exact Ext.aside (Ext.refl M)
 have c4:R1.log=[]:=by rw[a2]
 have c0:=uS a2 hM;have a9:=aB.lt_of_get gC;have g6:=aV a2 gC;have g7:=aV a2 gK;obtain⟨w8,N9,a0,c5,c3,b3,b0,a6,b6⟩:=aJ (x:=((n,cur),(u:Int),(v:Int),(m:Int))) c0 Ga (⟨⟨_,_,_,_,rfl,⟨C,K,c,cl,rfl,g6,g7⟩,rfl,rfl,rfl⟩,c2⟩);have b9:=b0.old g7;have b8:w8=i64 (bP (n:Int) (u:Int) (v:Int) (m:Int)):=b6;subst b8;have a8:a0.log=[]:=by rw[<-b3];exact c4
 have b2:=X3.trans b0;obtain⟨b1,a1⟩:∃m:aB,m=(aB.mk a0.blks a0.next a0.hide (a0.log++M.log)):=⟨_,rfl⟩;have b7:Ext M b1:=by rw[a1];exact Ext.join (Ext.refl M) (b2)
 have a7:aA b1:=by rw[a1];exact a6
 have b5:M.hide=a0.hide:=((Ext.refl M).hide.trans (b2).hide.symm);obtain⟨a4,a5,M10h,a3⟩:=a0;try dsimp only at b5
 subst b5;subst a2;subst a1;try dsimp only at *
 exact⟨i64 z,_,kA 60 [aL 9 (aC K 0 cur.length c),bL 19 (i64 (bP (n:Int) (u:Int) (v:Int) (m:Int))) (aB.mk a4 a5 M.hide a3),aI 21,aL 23 (i64 z)] Tryz.func64 q64_ok rK64 (fun B=>jL (fH 84 Vd (eZ _))) (hk (lO 1 jJ g6 rfl) (hk (fQ a9) (hk (qc 84 b3 c5 c3) (hk (qI (bP (n:Int) (u:Int) (v:Int) (m:Int)) cur.length b4.1 b4.2) (hk (lD (aY (a:=⟨K,0+(bP (n:Int) (u:Int) (v:Int) (m:Int):Int).toNat*1,none⟩) bU b9 c1)) (hq (qT (bZ [C] a3)) (cH (by rw[a8];simp<;>omega)) hn)))))),b7,a7,rfl⟩
abbrev Q64:=FC (hJ (Vg (qU 79) pN pN pN) fun x:(Nat×List Int)×Nat×Nat×Nat=>x.1.1<=60/\x.1.2.length=x.1.1*x.1.1*5/\x.2.1<x.1.1/\x.2.2.1<x.1.1/\x.2.2.2<5) (plain pI) (fun x=>aK x.1.2 (aU x.1.1 .inn x.2.1 x.2.2.1 x.2.2.2))
theorem Xk{x:(Nat×List Int)×Nat×Nat×Nat}{lv:List Value}{M:aB}(hM:aA M)(h:(hJ (Vg (qU 79) pN pN pN) fun x:(Nat×List Int)×Nat×Nat×Nat=>x.1.1<=60/\x.1.2.length=x.1.1*x.1.1*5/\x.2.1<x.1.1/\x.2.2.1<x.1.1/\x.2.2.2<5) x lv M):∃v M',lK prog [] 64 Q64 lv M v M':=by
 refine FC.con h ?_;obtain⟨⟨g0,g1,g2,g3,rfl,k0,k1,k2,k3⟩,hn,hl,hv,hu,hm⟩:=h;obtain⟨⟨n,cur⟩,v,u,m⟩:=x;obtain rfl:=k1;obtain rfl:=k2;obtain rfl:=k3;obtain⟨C,K,c,cl,rfl,gC,gK⟩:=k0;simp only at hn hl hv hu hm gC gK;have hk:=iU (w:= .inn) hv hu hm;have hs:=eL (cur:=cur) (by rw[hl];exact hk);have e0:bP (n:Int) (u:Int) (v:Int) (m:Int)=((aU n .inn v u m:Nat):Int):=by unfold aU bP;push_cast;rfl
 obtain⟨v',M',h1,h2,_,h3⟩:=w57 C K c n v u m cl cur (aK cur (aU n .inn v u m)) hM gC gK ⟨hn,by omega,by omega,by omega⟩ (by rw[e0];omega) (by rw[e0];simp [hs]);exact⟨v',M',h1,h2,h3⟩
open Tryz
theorem mX:(prog.underlying 29).map eC=some false:=by kernel_rfl
theorem dS29:(prog.info? 29).map (·.size)=some 1:=by kernel_rfl
theorem rB:(prog.underlying 42).map eC=some true:=by kernel_rfl
theorem kS:(prog.info? 42).map (·.size)=some 7:=by kernel_rfl
theorem rK53:Tryz.f53.results= #[.tmp 4]:=by kernel_rfl
theorem w46(B ab ao ca:Nat)(c0 c1 c2 c4 c5 c6 c7:Value)(arcs:List A7)(i z:Int){M:aB}(hM:aA M)(gB:M.get B=some ⟨[c0,c1,c2,aC ab ao arcs.length ca,c4,c5,c6,c7],56,8,0,true⟩)(a1:0<=(i:Int)/\(i:Int)<arcs.length)(a0:bA prog 3 ⟨ab,ao+(i:Int).toNat*7+3,none⟩ M=some (i64 z)):∃v_ M',Ev prog [] 53 [pt B 0,i64 i] M v_ M'/\Ext M M'/\aA M'/\v_=i64 z:=by exact⟨i64 z,M,kA 60 [aL 11 (aC ab ao arcs.length ca),aI 15,aL 19 (i64 z)] Tryz.func53 q53_ok rK53 (aD prog) (hk (lO 3 mX gB rfl) (hk (qI i arcs.length a1.1 a1.2) (hk (lD (a0)) hn))),Ext.refl M,hM,rfl⟩
abbrev Q53:=FC (hJ (lT (Mf 56) pI) fun x:List A7×Int=>0<=x.2/\x.2<(x.1.length:Int)) (plain pI) (fun x=>eI x.1 x.2)
theorem con53{x:List A7×Int}{lv:List Value}{M:aB}(hM:aA M)(h:(hJ (lT (Mf 56) pI) fun x:List A7×Int=>0<=x.2/\x.2<(x.1.length:Int)) x lv M):∃v M',lK prog [] 53 Q53 lv M v M':=by refine FC.con h ?_;obtain⟨⟨g0,g1,rfl,k0,k1⟩,a0⟩:=h;obtain⟨arcs,i⟩:=x;obtain rfl:=k1;obtain⟨B,c0,c1,c2,c3,c4,c5,c6,c7,rfl,gB,hs⟩:=k0;simp only at a0 hs;obtain⟨a,c,rfl⟩:=aG.form hs;obtain⟨b,o,rfl,_⟩:=cN hs (by omega);have ht:arcs[i.toNat]?=some arcs[i.toNat]:=xAe (by omega);have hl:=jU (P:=prog) (ty:=3) (j:=3) (v:=i64 arcs[i.toNat].c) hs ht rfl bU;obtain⟨v,M',h1,h2,_,h3⟩:=w46 B b o c c0 c1 c2 c4 c5 c6 c7 arcs i arcs[i.toNat].c hM gB a0 hl;exact⟨v,M',h1,h2,by rw[h3,Nd ht];rfl⟩
theorem rK54:Tryz.f54.results= #[.tmp 4]:=by kernel_rfl
theorem w47(B eb eo ce:Nat)(c0 c2 c3 c4 c5 c6 c7:Value)(es:List E4)(i z:Int){M:aB}(hM:aA M)(gB:M.get B=some ⟨[c0,aC eb eo es.length ce,c2,c3,c4,c5,c6,c7],56,8,0,true⟩)(a1:0<=(i:Int)/\(i:Int)<es.length)(a0:bA prog 3 ⟨eb,eo+(i:Int).toNat*4+3,none⟩ M=some (i64 z)):∃v_ M',Ev prog [] 54 [pt B 0,i64 i] M v_ M'/\Ext M M'/\aA M'/\v_=i64 z:=by exact⟨i64 z,M,kA 60 [aL 13 (aC eb eo es.length ce),aI 17,aL 21 (i64 z)] Tryz.func54 q54_ok rK54 (aD prog) (hk (lO 1 cY gB rfl) (hk (qI i es.length a1.1 a1.2) (hk (lD (a0)) hn))),Ext.refl M,hM,rfl⟩
abbrev Q54:=FC (hJ (lT (Im 56) pI) fun x:List E4×Int=>0<=x.2/\x.2<(x.1.length:Int)) (plain pI) (fun x=>gI x.1 x.2)
theorem con54{x:List E4×Int}{lv:List Value}{M:aB}(hM:aA M)(h:(hJ (lT (Im 56) pI) fun x:List E4×Int=>0<=x.2/\x.2<(x.1.length:Int)) x lv M):∃v M',lK prog [] 54 Q54 lv M v M':=by refine FC.con h ?_;obtain⟨⟨g0,g1,rfl,k0,k1⟩,a0⟩:=h;obtain⟨es,i⟩:=x;obtain rfl:=k1;obtain⟨B,c0,c1,c2,c3,c4,c5,c6,c7,rfl,gB,hs⟩:=k0;simp only at a0 hs;obtain⟨a,c,rfl⟩:=aG.form hs;obtain⟨b,o,rfl,_⟩:=cN hs (by omega);have ht:es[i.toNat]?=some es[i.toNat]:=xAe (by omega);have hl:=jU (P:=prog) (ty:=3) (j:=3) (v:=i64 es[i.toNat].c) hs ht rfl bU;obtain⟨v,M',h1,h2,_,h3⟩:=w47 B b o c c0 c2 c3 c4 c5 c6 c7 es i es[i.toNat].c hM gB a0 hl;exact⟨v,M',h1,h2,by rw[h3,Nf ht];rfl⟩
theorem rK56:Tryz.f56.results= #[.cell 4 42]:=by kernel_rfl
theorem w49(eb eo ce:Nat)(es:List E4)(e:E4)(i:Int){M:aB}(hM:aA M)(b4:0<=(i:Int)/\(i:Int)<es.length)(a7:bA prog 46 ⟨eb,eo+(i:Int).toNat*4,none⟩ M=some (.agg ⟨(cJ e)⟩)):∃v_ M',Ev prog [] 56 [aC eb eo es.length ce,i64 i] M v_ M'/\Ext M M'/\aA M'/\v_= .agg ⟨dE (jZ i e)⟩:=by
 obtain⟨b1,M2,b3,c1,g5,E6,c6⟩:=bG hM ⟨[i64 0,i64 0,i64 0,i64 0,i64 0,i64 0,i64 0],42,7,0,true⟩;have c8:M.next<=b1:=by rw[<-b3];exact(Ext.refl M).next
 have X9:=(Ext.refl M).trans E6;obtain⟨c0,b5,a1,a3,c2,b0,a4⟩:=bG c6 ⟨[i64 0,i64 0,i64 0,i64 0],46,4,0,true⟩;have a9:=kN a1 X9;have a0:=dL g5 a1;have c3:=b0.old g5;have b7:=X9.trans b0;obtain⟨b6,d1,a2,a8,b8,a5,c9⟩:=aX (o:=0) (v:=(.agg ⟨(cJ e)⟩)) (new:=(cJ e)) b7 a9 a4 mO c2 rfl rfl (Nat.zero_le _) (xAd rfl) rfl;have c4:=(a8 _ a0).trans c3;obtain⟨b2,q29,c5,c7,b9,a6,d0⟩:=aX (o:=0) (v:=(.agg ⟨[i64 e.f,i64 e.t,i64 e.m,i64 e.c,i64 i,i64 0,i64 0]⟩)) (new:=[i64 e.f,i64 e.t,i64 e.m,i64 e.c,i64 i,i64 0,i64 0]) b8 c8 a5 kS c4 rfl rfl (Nat.zero_le _) (xAd rfl) rfl;exact⟨.agg ⟨[i64 e.f,i64 e.t,i64 e.m,i64 e.c,i64 i,i64 0,i64 0]⟩,b2,Ev.told_cell (tb:=[]) (n:=60) (F:=[bL 1 (pt b1 0) M2,aI 7,aL 9 (.agg ⟨(cJ e)⟩),bL 11 (pt c0 0) b5,iP 13 b6,aL 17 (i64 e.f),aL 21 (i64 e.t),aL 25 (i64 e.m),aL 29 (i64 e.c),iP 35 b2]) gW gV Tryz.func56 q56_ok (by kernel_rfl) rK56 (aD prog) (fun _ _=>rfl) (by kernel_rfl) (lS (a:=⟨b1,0,none⟩) rB kS c5 rfl) (hk (qE (cQ prog 42) b3 c1 (by kernel_rfl)) (hk (qI i es.length b4.1 b4.2) (hk (lD (aO X9 a7)) (hk (qE (cQ prog 46) a1 a3 (by kernel_rfl)) (hk (dB d1) (hk (lO 0 bU a2 rfl) (hk (lO 1 bU a2 rfl) (hk (lO 2 bU a2 rfl) (hk (lO 3 bU a2 rfl) (hk (dB q29) hn)))))))))),b9,a6,rfl⟩
abbrev Q56:=FC (hJ (lT aQ pI) fun x:List E4×Int=>0<=x.2/\x.2<(x.1.length:Int)) (plain Qv) (fun x=>jZ x.2 (Xo x.1 x.2))
theorem Xg{x:List E4×Int}{lv:List Value}{M:aB}(hM:aA M)(h:(hJ (lT aQ pI) fun x:List E4×Int=>0<=x.2/\x.2<(x.1.length:Int)) x lv M):∃v M',lK prog [] 56 Q56 lv M v M':=by refine FC.con h ?_;obtain⟨⟨g0,g1,rfl,hs,k1⟩,a0⟩:=h;obtain⟨es,i⟩:=x;obtain rfl:=k1;simp only at a0 hs;obtain⟨a,c,rfl⟩:=aG.form hs;obtain⟨b,o,rfl,_⟩:=cN hs (by omega);have ht:es[i.toNat]?=some es[i.toNat]:=xAe (by omega);have hl:=iK (P:=prog) (ty:=46) hs ht sV mO;obtain⟨v,M',h1,h2,_,h3⟩:=w49 b o c es es[i.toNat] i hM a0 hl;exact⟨v,M',h1,h2,by show Qv (jZ i (Xo es i)) _ _;rw[Cp ht];exact h3⟩
theorem rK91:Tryz.f91.results= #[.cell 6 42]:=by kernel_rfl
theorem w79(ab ao ca:Nat)(arcs:List A7)(x y:A7)(ia ib:Int){M:aB}(hM:aA M)(i6:ab<M.next)(g6:0<=(ia:Int)/\(ia:Int)<arcs.length)(d9:bA prog 42 ⟨ab,ao+(ia:Int).toNat*7,none⟩ M=some (.agg ⟨(dE x)⟩))(g7:0<=(ib:Int)/\(ib:Int)<arcs.length)(e0:bA prog 42 ⟨ab,ao+(ib:Int).toNat*7,none⟩ M=some (.agg ⟨(dE y)⟩)):∃v_ M',Ev prog [] 91 [aC ab ao arcs.length ca,i64 ia,i64 ib] M v_ M'/\Ext M M'/\aA M'/\v_= .agg ⟨dE ⟨x.f,y.t,x.m,IntKind.wrap .i64 (x.c+y.c),-1,ia,ib⟩⟩:=by
 obtain⟨b1,M2,g0,h3,g5,E6,i5⟩:=bG hM ⟨[i64 0,i64 0,i64 0,i64 0,i64 0,i64 0,i64 0],42,7,0,true⟩;have i8:M.next<=b1:=by rw[<-g0];exact(Ext.refl M).next
 have X9:=(Ext.refl M).trans E6;obtain⟨f4,a0⟩:=uR M2 M2 [];have b8:=vW a0 X9;have e1:f4.log=[]:=by rw[a0]
 have a4:f4.next=M2.next:=by rw[a0]
 have d2:=uS a0 i5;have a9:=xAf i6 X9.next;have ltb1M2:=aB.lt_of_get g5;have g1:=aV a0 g5;obtain⟨b3,b0,a8,b4,g2,f0,d3⟩:=bG d2 ⟨[i64 0,i64 0,i64 0,i64 0,i64 0,i64 0,i64 0],42,7,0,true⟩;have e6:M.next<=b3:=(kN a8 b8:);have a6:=dL g1 a8;have g3:=f0.old g1;have e2:b0.log=[]:=by rw[<-b4];exact e1
 have f5:=b8.trans f0;obtain⟨d0,c0,a3,b5,h4,b9,d4⟩:=bG d3 ⟨[i64 0,i64 0,i64 0,i64 0,i64 0,i64 0,i64 0],42,7,0,true⟩;have e7:M.next<=d0:=(kN a3 f5:);have a7:=dL g3 a3;have a1:=dL g2 a3;have h5:=b9.old g3;have h6:=b9.old g2;have e3:c0.log=[]:=by rw[<-b5];exact e2
 have f6:=f5.trans b9;obtain⟨c4,j0,h7,b6,f7,d5,e8⟩:=aX (o:=0) (v:=(.agg ⟨(dE x)⟩)) (new:=(dE x)) f6 e6 d4 kS h6 rfl rfl (Nat.zero_le _) (xAd rfl) rfl;have h8:=(b6 _ a6).trans h5;have h9:=(b6 _ (Ne.symm a1)).trans h4;have e4:c4.log=[b3]:=by rw[e8,e3]
 obtain⟨a5,q50,i0,b7,f8,d6,e9⟩:=aX (o:=0) (v:=(.agg ⟨(dE y)⟩)) (new:=(dE y)) f7 e7 d5 kS h9 rfl rfl (Nat.zero_le _) (xAd rfl) rfl;have i1:=(b7 _ a7).trans h8;have i2:=(b7 _ a1).trans h7;have e5:a5.log=[d0,b3]:=by rw[e9,e4]
 obtain⟨f1,a2⟩:∃m:aB,m=(aB.mk a5.blks a5.next a5.hide (a5.log++M2.log)):=⟨_,rfl⟩;have h1:Ext M f1:=by rw[a2];exact Ext.join (X9) (f8)
 have d7:aA f1:=by rw[a2];exact d6
 have i3:=aV a2 i1;have d1:=aV a2 i2;have g4:=aV a2 i0;obtain⟨f2,q67,i4,i7,h2,d8,i9⟩:=aX (o:=0) (v:=(.agg ⟨[i64 x.f,i64 y.t,i64 x.m,i64 (IntKind.wrap .i64 (x.c+y.c)),i64 (-1),i64 ia,i64 ib]⟩)) (new:=[i64 x.f,i64 y.t,i64 x.m,i64 (IntKind.wrap .i64 (x.c+y.c)),i64 (-1),i64 ia,i64 ib]) h1 i8 d7 kS i3 rfl rfl (Nat.zero_le _) (xAd rfl) rfl;have j1:=Hu (k:=112) (l:=[⟨3,1,M2.next,M2.next⟩]) a0 (by simp [aP,Nat.beq_refl,a4,nM,nN]);have j2:=Hu (k:=0) (l:=[⟨3,1,M2.next,M2.next⟩]) a0 (by simp [aP,Nat.beq_refl,a4,nM,nN]);have g8:M2.hide=c0.hide:=((X9).hide.trans (f6).hide.symm);have g9:M2.hide=c4.hide:=((X9).hide.trans (f7).hide.symm);have h0:M2.hide=a5.hide:=((X9).hide.trans (f8).hide.symm);obtain⟨c1,c3,M28h,c2⟩:=c0;try dsimp only at g8
 subst g8;obtain⟨c5,c7,M39h,c6⟩:=c4;try dsimp only at g9
 subst g9;obtain⟨c8,c9,M49h,b2⟩:=a5;try dsimp only at h0
 subst h0;subst a0;subst a2;try dsimp only at *
 exact⟨.agg ⟨[i64 x.f,i64 y.t,i64 x.m,i64 (IntKind.wrap .i64 (x.c+y.c)),i64 (-1),i64 ia,i64 ib]⟩,f2,Ev.told_cell (tb:=[]) (n:=60) (F:=[bL 1 (pt b1 0) M2,aI 7,aL 9 (.agg ⟨(dE x)⟩),aI 15,aL 17 (.agg ⟨(dE y)⟩),bL 19 (pt b3 0) b0,bL 21 (pt d0 0) (aB.mk c1 c3 (aP 0 [⟨8,1,M2.next,b0.next⟩,⟨3,1,M2.next,M2.next⟩]++M2.hide) c2),iP 23 (aB.mk c5 c7 M2.hide c6),iP 25 (aB.mk c8 c9 M2.hide b2),aL 29 (i64 x.f),aL 33 (i64 y.t),aL 37 (i64 x.m),aL 41 (i64 x.c),aL 45 (i64 y.c),iP 55 f2]) gW gV Tryz.func91 q91_ok (by kernel_rfl) rK91 (aD prog) (fun _ _=>rfl) (by kernel_rfl) (lS (a:=⟨b1,0,none⟩) rB kS i4 rfl) (hk (qE (cQ prog 42) g0 h3 (by kernel_rfl)) (hk (qI ia arcs.length g6.1 g6.2) (hk (lD (aO b8 d9)) (hk (qI ib arcs.length g7.1 g7.2) (hk (Ht j1 (lD (aO b8 e0))) (hk (fQ a9) (hq (.eq (cQ prog 42 (aB.mk M2.blks M2.next (aP 0 [⟨3,1,M2.next,M2.next⟩]++M2.hide) [])) (1,.val (pt b3 0),b0)) (lH (by rw[j2,<-a8,<-b4];kernel_rfl) xAc) (hk (qG (cQ prog 42) (aP 0 [⟨8,1,M2.next,b0.next⟩,⟨3,1,M2.next,M2.next⟩]++M2.hide) a3 b5 fun _=>by kernel_rfl) (hk (dB j0) (hk (dB q50) (hq (qT (bZ [ab] b2)) (cH (by rw[e5];simp<;>omega)) (hk (lO 0 bU d1 rfl) (hk (lO 1 bU g4 rfl) (hk (lO 2 bU d1 rfl) (hk (lO 3 bU d1 rfl) (hk (lO 3 bU g4 rfl) (hk (dB q67) hn))))))))))))))))),h2,d8,rfl⟩
abbrev Q91:=FC (hJ (Ya cL pI pI) fun x:List A7×Int×Int=>(0<=x.2.1/\x.2.1<(x.1.length:Int))/\(0<=x.2.2/\x.2.2<(x.1.length:Int))/\0<=(sP x.1 x.2.1).c+(sP x.1 x.2.2).c/\(sP x.1 x.2.1).c+(sP x.1 x.2.2).c<9223372036854775808) (plain Qv) (fun x=>mN (sP x.1 x.2.1) (sP x.1 x.2.2) x.2.1 x.2.2)
theorem con91{x:List A7×Int×Int}{lv:List Value}{M:aB}(hM:aA M)(h:(hJ (Ya cL pI pI) fun x:List A7×Int×Int=>(0<=x.2.1/\x.2.1<(x.1.length:Int))/\(0<=x.2.2/\x.2.2<(x.1.length:Int))/\0<=(sP x.1 x.2.1).c+(sP x.1 x.2.2).c/\(sP x.1 x.2.1).c+(sP x.1 x.2.2).c<9223372036854775808) x lv M):∃v M',lK prog [] 91 Q91 lv M v M':=by refine FC.con h ?_;obtain⟨⟨g0,g1,g2,rfl,hs,k1,k2⟩,h1,h2,h3⟩:=h;obtain⟨arcs,ia,ib⟩:=x;obtain rfl:=k1;obtain rfl:=k2;simp only at h1 h2 h3 hs;obtain⟨a,c,rfl⟩:=aG.form hs;obtain⟨b,o,rfl,_⟩:=cN hs (by omega);have ta:arcs[ia.toNat]?=some arcs[ia.toNat]:=xAe (by omega);have tb:arcs[ib.toNat]?=some arcs[ib.toNat]:=xAe (by omega);have la:=iK (P:=prog) (ty:=42) hs ta rB kS;have lb:=iK (P:=prog) (ty:=42) hs tb rB kS;obtain⟨v,M',q1,q2,_,q3⟩:=w79 b o c arcs arcs[ia.toNat] arcs[ib.toNat] ia ib hM (pM hs (by omega)) h1 la h2 lb;refine⟨v,M',q1,q2,?_⟩;rw[qW ta,qW tb] at h3;show Qv (mN (sP arcs ia) (sP arcs ib) ia ib) _ _;rw[qW ta,qW tb];rw[rS (by omega) (by omega)] at q3;exact q3
open Tryz
theorem Vl:(prog.underlying 76).map eC=some false:=by kernel_rfl
theorem Qy:Tryz.f55.results= #[.tmp 6]:=by kernel_rfl
theorem w48A0(B C K n:Nat)(cur:List Int)(a:A7)(num:Int)(y:List A7)(z:Int){M M0:aB}(hM:aA M)(X0:Ext M0 M)(gC:M.get C=some ⟨[i64 n,aC K 0 (n*n*5) (n*n*5+1),.func (.func 53) ⟨[pt B 0]⟩ ⟨[]⟩],79,3,0,true⟩)(gK:M.get K=some ⟨cur.map i64,3,1,0,true⟩)(nK:M0.next<=K)(dCK:C≠K)(hY:(Mf 56) y (pt B 0) (bS [(K,K+1)] M))(d7:cur.length=n*n*5)(a3:n<=60/\(0<=a.f/\a.f<(n:Int))/\(0<=a.t/\a.t<(n:Int))/\(0<=a.m/\a.m<5))(hz:z≠ -1->0<=z/\z<(y.length:Int))(a2:(z==(-1:Int))=true)(a7:0<=(bP (n:Int) a.f a.t a.m:Int)/\(bP (n:Int) a.f a.t a.m:Int)<(n*n*5))(d6:(cur.map i64)[0+(bP (n:Int) a.f a.t a.m:Int).toNat*1]?=some (i64 z))(b6:0+(bP (n:Int) a.f a.t a.m:Int).toNat*1+1<=(cur.map i64).length):∃M',Ev prog [] 55 [pt C 0,.agg ⟨(dE a)⟩,i64 num] M (.bool true) M'/\Ext M0 M'/\aA M'/\M'.get K=some ⟨splice (cur.map i64) (0+(bP (n:Int) a.f a.t a.m:Int).toNat*1) [i64 num],3,1,0,true⟩/\(∀id k,M.get id=some k->id≠K->M'.get id=some k):=by
 obtain⟨b1,M2,c8,c9,g5,E6,d5⟩:=bG hM ⟨(dE a),42,7,0,true⟩;have g9:=E6.old gC;have b9:=E6.old gK;have c3:=X0.trans E6;obtain⟨Rf,e3,a6,e1,d9,c7,a5,b2,c2⟩:=aJ (x:=((n,cur),a.f,a.t,a.m)) d5 Ga (⟨⟨_,_,_,_,rfl,⟨C,K,n*n*5+1,.func (.func 53) ⟨[pt B 0]⟩ ⟨[]⟩,rfl,(by rw[d7];exact g9),b9⟩,rfl,rfl,rfl⟩,a3⟩);have c0:=a5.old g9;have c1:=a5.old b9;have b0:Rf=i64 (bP (n:Int) a.f a.t a.m):=c2;subst b0;have b8:=c3.trans a5;obtain⟨a4,a0⟩:=uR a6 a6 [];have c4:=vW a0 b8;have b3:=uS a0 b2;have d0:=aV a0 c0;have d1:=aV a0 c1;obtain⟨a8,a1⟩:∃m:aB,m=(aB.mk a4.blks a4.next a4.hide (a4.log++a6.log)):=⟨_,rfl⟩;have c5:Ext M0 a8:=by rw[a1];exact Ext.join (b8) (c4)
 have b4:aA a8:=by rw[a1];exact b3
 have d2:=aV a1 d0;have d3:=aV a1 d1;obtain⟨a9,e2,d4,b7,c6,b5,e0⟩:=aX (o:=0+(bP (n:Int) a.f a.t a.m:Int).toNat*1) (v:=(i64 num)) (new:=splice (cur.map i64) (0+(bP (n:Int) a.f a.t a.m:Int).toNat*1) [i64 num]) c5 nK b4 Et d3 rfl rfl (Nat.zero_le _) b6 rfl;have d8:∀id k,M.get id=some k->id≠K->a9.get id=some k:=fun id k g h_K=>by
  have g:=E6.old g;have g:=a5.old g;have g:a4.get id=some k:=by rw[a0];exact g
  have g:a8.get id=some k:=by rw[a1];exact g
  have g:=((fun id h _=>b7 id h) id h_K (aB.lt_of_get g)).trans g;exact g
 subst a0;subst a1;try dsimp only at *
 exact⟨a9,kA 60 [bL 1 (pt b1 0) M2,aL 9 (i64 a.f),aL 13 (i64 a.t),aL 17 (i64 a.m),bL 19 (i64 (bP (n:Int) a.f a.t a.m)) a6,aL 29 (aC K 0 (n*n*5) (n*n*5+1)),aI 33,aL 35 (i64 z),aZ 44,aZ 46,aZ 48,aZ 50,aZ 52,aZ 54,aZ 56,aZ 58,aZ 60,aZ 63,aL 72 (aC K 0 (n*n*5) (n*n*5+1)),aI 78,iP 80 a9] Tryz.func55 zJ Qy (fun B=>jL (fH 84 Vd (eZ _))) (hk (qE (fE prog 42 (.agg ⟨(dE a)⟩)) c8 c9 (by kernel_rfl)) (hk (lO 0 bU g5 rfl) (hk (lO 1 bU g5 rfl) (hk (lO 2 bU g5 rfl) (hk (qc 84 c7 e1 d9) (hk (lO 1 jJ c0 rfl) (hk (qI (bP (n:Int) a.f a.t a.m) (n*n*5) a7.1 a7.2) (hk (lD (aY (a:=⟨K,0+(bP (n:Int) a.f a.t a.m:Int).toNat*1,none⟩) bU c1 d6)) (hk (bF (x:=!(z==(-1:Int))) (by rw[a2];rfl)) (hk (bF (x:=!(z==(-1:Int))) (by rw[a2];rfl)) (hk (bF (x:=!(z==(-1:Int))) (by rw[a2];rfl)) (hk (bF (x:=!(z==(-1:Int))) (by rw[a2];rfl)) (hk (bF (x:=!(z==(-1:Int))) (by rw[a2];rfl)) (hk (bF (x:=!(z==(-1:Int))) (by rw[a2];rfl)) (hk (bF (x:=!(z==(-1:Int))) (by rw[a2];rfl)) (hk (bF (x:=!(z==(-1:Int))) (by rw[a2];rfl)) (hk (bF (x:=!(z==(-1:Int))) (by rw[a2];rfl)) (hk (bF (x:=!(z==(-1:Int))) (by rw[a2];rfl)) (hq (qT (bZ [] [])) (cH (by simp)) (hk (lO 1 jJ d2 rfl) (hk (qI (bP (n:Int) a.f a.t a.m) (n*n*5) a7.1 a7.2) (hk (dB e2) hn)))))))))))))))))))))),c6,b5,d4,d8⟩
theorem Pi(B C K n:Nat)(cur:List Int)(a:A7)(num:Int)(y:List A7)(z:Int){M M0:aB}(hM:aA M)(X0:Ext M0 M)(gC:M.get C=some ⟨[i64 n,aC K 0 (n*n*5) (n*n*5+1),.func (.func 53) ⟨[pt B 0]⟩ ⟨[]⟩],79,3,0,true⟩)(gK:M.get K=some ⟨cur.map i64,3,1,0,true⟩)(nK:M0.next<=K)(dCK:C≠K)(hY:(Mf 56) y (pt B 0) (bS [(K,K+1)] M))(g4:cur.length=n*n*5)(b5:n<=60/\(0<=a.f/\a.f<(n:Int))/\(0<=a.t/\a.t<(n:Int))/\(0<=a.m/\a.m<5))(hz:z≠ -1->0<=z/\z<(y.length:Int))(a2:(z==(-1:Int))=false):(∀(cc1:(decide ((eI y z)<=a.c))=true)(hi0:0<=(bP (n:Int) a.f a.t a.m:Int)/\(bP (n:Int) a.f a.t a.m:Int)<(n*n*5))(hc1:(cur.map i64)[0+(bP (n:Int) a.f a.t a.m:Int).toNat*1]?=some (i64 z)),∃M',Ev prog [] 55 [pt C 0,.agg ⟨(dE a)⟩,i64 num] M (.bool false) M'/\Ext M0 M'/\aA M'/\M'.get K=some ⟨cur.map i64,3,1,0,true⟩/\(∀id k,M.get id=some k->id≠K->M'.get id=some k))/\(∀(cc1:(decide ((eI y z)<=a.c))=false)(hi0:0<=(bP (n:Int) a.f a.t a.m:Int)/\(bP (n:Int) a.f a.t a.m:Int)<(n*n*5))(hc1:(cur.map i64)[0+(bP (n:Int) a.f a.t a.m:Int).toNat*1]?=some (i64 z))(hof2:0+(bP (n:Int) a.f a.t a.m:Int).toNat*1+1<=(cur.map i64).length),∃M',Ev prog [] 55 [pt C 0,.agg ⟨(dE a)⟩,i64 num] M (.bool true) M'/\Ext M0 M'/\aA M'/\M'.get K=some ⟨splice (cur.map i64) (0+(bP (n:Int) a.f a.t a.m:Int).toNat*1) [i64 num],3,1,0,true⟩/\(∀id k,M.get id=some k->id≠K->M'.get id=some k)):=by
 obtain⟨b1,M2,c7,e3,g5,E6,g3⟩:=bG hM ⟨(dE a),42,7,0,true⟩;have F8:=kZ (R:=(Mf 56)) hY c7 E6;have g9:=E6.old gC;have e4:=E6.old gK;have f7:=X0.trans E6;obtain⟨Rf,g7,a3,f0,e8,e2,b2,d5,f4⟩:=aJ (x:=((n,cur),a.f,a.t,a.m)) g3 Ga (⟨⟨_,_,_,_,rfl,⟨C,K,n*n*5+1,.func (.func 53) ⟨[pt B 0]⟩ ⟨[]⟩,rfl,(by rw[g4];exact g9),e4⟩,rfl,rfl,rfl⟩,b5⟩);have f5:=jR (R:=(Mf 56)) F8 b2;have c9:=b2.old g9;have d0:=b2.old e4;have e5:=b2.old g5;have c8:Rf=i64 (bP (n:Int) a.f a.t a.m):=f4;subst c8;have b7:=f7.trans b2;obtain⟨c2,a1⟩:=uR a3 a3 [];have e1:=vW a1 b7;have c0:c2.log=[]:=by rw[a1]
 have d6:=uS a1 d5;have d1:=aV a1 c9;have e6:=aV a1 d0;have a7:=aB.lt_of_get e5;have e7:=aV a1 e5;have f6:=cZ (R:=(Mf 56)) (M':=c2) f5 (fun id b h=>by rw[a1];exact h);obtain⟨f2,g8,a6,f1,e9,c3,a9,b9,e0⟩:=aJ (x:=(y,z)) d6 con53 (⟨⟨_,_,rfl,dI (R:=(Mf 56)) f6,rfl⟩,hz (by intro e;rw[e] at a2;cases a2)⟩);refine⟨?_,?_⟩
 ·intro cc1 hi0 hc1;have d2:=a9.old e6;have d3:=a9.old e7;have b3:f2=i64 (eI y z):=e0;subst b3;have b6:a6.log=[]:=by rw[<-c3];exact c0
  have b8:=e1.trans a9;obtain⟨b0,a0⟩:∃m:aB,m=(aB.mk a6.blks a6.next a6.hide (a6.log++a3.log)):=⟨_,rfl⟩;have c6:Ext M0 b0:=by rw[a0];exact Ext.join (b7) (b8)
  have b4:aA b0:=by rw[a0];exact b9
  have d4:=aV a0 d2;have d8:∀id k,M.get id=some k->id≠K->b0.get id=some k:=fun id k g h_K=>by
   have g:=E6.old g;have g:=b2.old g;have g:c2.get id=some k:=by rw[a1];exact g
   have g:=a9.old g;have g:b0.get id=some k:=by rw[a0];exact g
   exact g
  have c1:a3.hide=a6.hide:=((b7).hide.trans (b8).hide.symm);obtain⟨a8,a5,c4,a4⟩:=a6;try dsimp only at c1
  subst c1;subst a1;subst a0;try dsimp only at *
  exact⟨_,kA 60 [bL 1 (pt b1 0) M2,aL 9 (i64 a.f),aL 13 (i64 a.t),aL 17 (i64 a.m),bL 19 (i64 (bP (n:Int) a.f a.t a.m)) a3,aL 29 (aC K 0 (n*n*5) (n*n*5+1)),aI 33,aL 35 (i64 z),aI 44,aI 46,aI 48,aI 50,aL 51 (.func (.func 53) ⟨[pt B 0]⟩ ⟨[]⟩),aI 52,aI 54,bL 55 (i64 (eI y z)) (aB.mk a8 a5 a3.hide a4),aI 56,aI 58,aL 59 (i64 a.c),aI 60,aI 63,aI 64] Tryz.func55 zJ Qy (fun B=>jL (fH 53 Q53 (fH 84 Vd (eZ _)))) (hk (qE (fE prog 42 (.agg ⟨(dE a)⟩)) c7 e3 (by kernel_rfl)) (hk (lO 0 bU g5 rfl) (hk (lO 1 bU g5 rfl) (hk (lO 2 bU g5 rfl) (hk (qc 84 e2 f0 e8) (hk (lO 1 jJ c9 rfl) (hk (qI (bP (n:Int) a.f a.t a.m) (n*n*5) hi0.1 hi0.2) (hk (lD (aY (a:=⟨K,0+(bP (n:Int) a.f a.t a.m:Int).toNat*1,none⟩) bU d0 hc1)) (hk (bT (x:=!(z==(-1:Int))) (by rw[a2];rfl)) (hk (bT (x:=!(z==(-1:Int))) (by rw[a2];rfl)) (hk (bT (x:=!(z==(-1:Int))) (by rw[a2];rfl)) (hk (bT (x:=!(z==(-1:Int))) (by rw[a2];rfl)) (hk (lO 2 Vl d1 rfl) (hk (bT (x:=!(z==(-1:Int))) (by rw[a2];rfl)) (hk (bT (x:=!(z==(-1:Int))) (by rw[a2];rfl)) (hk (qc 53 c3 f1 e9) (hk (bT (x:=!(z==(-1:Int))) (by rw[a2];rfl)) (hk (bT (x:=!(z==(-1:Int))) (by rw[a2];rfl)) (hq (qL 3 b1 3 (aB.mk a8 a5 (aP 519 [⟨8,1,a3.next,a5⟩,⟨6,1,a3.next,a3.next⟩]++a3.hide) a4) (i64 a.c)) (lC bU (bM.2 ⟨cV (by simp;omega),d3⟩) rfl) (hk (fQ a7) (hk (bT (x:=!(z==(-1:Int))) (by rw[a2];rfl)) (hk (bT (x:=!(z==(-1:Int))) (by rw[a2];rfl)) (hq (qT (bZ [b1] a4)) (cH (by rw[b6];simp<;>omega)) (hk (bT cc1) hn)))))))))))))))))))))))),c6,b4,d4,d8⟩
 ·intro cc1 hi0 hc1 hof2;have g0:=a9.old d1;have d2:=a9.old e6;have d3:=a9.old e7;have b3:f2=i64 (eI y z):=e0;subst b3;have b6:a6.log=[]:=by rw[<-c3];exact c0
  have b8:=e1.trans a9;obtain⟨b0,a0⟩:∃m:aB,m=(aB.mk a6.blks a6.next a6.hide (a6.log++a3.log)):=⟨_,rfl⟩;have c6:Ext M0 b0:=by rw[a0];exact Ext.join (b7) (b8)
  have b4:aA b0:=by rw[a0];exact b9
  have g1:=aV a0 g0;have d4:=aV a0 d2;obtain⟨c5,q62,g2,d9,f8,d7,g6⟩:=aX (o:=0+(bP (n:Int) a.f a.t a.m:Int).toNat*1) (v:=(i64 num)) (new:=splice (cur.map i64) (0+(bP (n:Int) a.f a.t a.m:Int).toNat*1) [i64 num]) c6 nK b4 Et d4 rfl rfl (Nat.zero_le _) hof2 rfl;have d8:∀id k,M.get id=some k->id≠K->c5.get id=some k:=fun id k g h_K=>by
   have g:=E6.old g;have g:=b2.old g;have g:c2.get id=some k:=by rw[a1];exact g
   have g:=a9.old g;have g:b0.get id=some k:=by rw[a0];exact g
   have g:=((fun id h _=>d9 id h) id h_K (aB.lt_of_get g)).trans g;exact g
  have c1:a3.hide=a6.hide:=((b7).hide.trans (b8).hide.symm);obtain⟨a8,a5,c4,a4⟩:=a6;try dsimp only at c1
  subst c1;subst a1;subst a0;try dsimp only at *
  exact⟨c5,kA 60 [bL 1 (pt b1 0) M2,aL 9 (i64 a.f),aL 13 (i64 a.t),aL 17 (i64 a.m),bL 19 (i64 (bP (n:Int) a.f a.t a.m)) a3,aL 29 (aC K 0 (n*n*5) (n*n*5+1)),aI 33,aL 35 (i64 z),aI 44,aI 46,aI 48,aI 50,aL 51 (.func (.func 53) ⟨[pt B 0]⟩ ⟨[]⟩),aI 52,aI 54,bL 55 (i64 (eI y z)) (aB.mk a8 a5 a3.hide a4),aI 56,aI 58,aL 59 (i64 a.c),aI 60,aI 63,aZ 64,aL 72 (aC K 0 (n*n*5) (n*n*5+1)),aI 78,iP 80 c5] Tryz.func55 zJ Qy (fun B=>jL (fH 53 Q53 (fH 84 Vd (eZ _)))) (hk (qE (fE prog 42 (.agg ⟨(dE a)⟩)) c7 e3 (by kernel_rfl)) (hk (lO 0 bU g5 rfl) (hk (lO 1 bU g5 rfl) (hk (lO 2 bU g5 rfl) (hk (qc 84 e2 f0 e8) (hk (lO 1 jJ c9 rfl) (hk (qI (bP (n:Int) a.f a.t a.m) (n*n*5) hi0.1 hi0.2) (hk (lD (aY (a:=⟨K,0+(bP (n:Int) a.f a.t a.m:Int).toNat*1,none⟩) bU d0 hc1)) (hk (bT (x:=!(z==(-1:Int))) (by rw[a2];rfl)) (hk (bT (x:=!(z==(-1:Int))) (by rw[a2];rfl)) (hk (bT (x:=!(z==(-1:Int))) (by rw[a2];rfl)) (hk (bT (x:=!(z==(-1:Int))) (by rw[a2];rfl)) (hk (lO 2 Vl d1 rfl) (hk (bT (x:=!(z==(-1:Int))) (by rw[a2];rfl)) (hk (bT (x:=!(z==(-1:Int))) (by rw[a2];rfl)) (hk (qc 53 c3 f1 e9) (hk (bT (x:=!(z==(-1:Int))) (by rw[a2];rfl)) (hk (bT (x:=!(z==(-1:Int))) (by rw[a2];rfl)) (hq (qL 3 b1 3 (aB.mk a8 a5 (aP 519 [⟨8,1,a3.next,a5⟩,⟨6,1,a3.next,a3.next⟩]++a3.hide) a4) (i64 a.c)) (lC bU (bM.2 ⟨cV (by simp;omega),d3⟩) rfl) (hk (fQ a7) (hk (bT (x:=!(z==(-1:Int))) (by rw[a2];rfl)) (hk (bT (x:=!(z==(-1:Int))) (by rw[a2];rfl)) (hq (qT (bZ [b1] a4)) (cH (by rw[b6];simp<;>omega)) (hk (bF cc1) (hk (lO 1 jJ g1 rfl) (hk (qI (bP (n:Int) a.f a.t a.m) (n*n*5) hi0.1 hi0.2) (hk (dB q62) hn))))))))))))))))))))))))))),f8,d7,g2,d8⟩
theorem Sj{x:LX (List A7)}{lv:List Value}{M:aB}(hM:aA M)(h:(Qr 79 53 eI (Mf 56) (fun y i=>0<=i/\i<(y.length:Int))).A x lv M)(a8:x.K<=M.next):∃v M',TO prog 55 (Qr 79 53 eI (Mf 56) (fun y i=>0<=i/\i<(y.length:Int))) lv M v M':=by
 have hA:=h;obtain⟨C,K,B,n,cur,y,a,num⟩:=x;obtain⟨rfl,gC,gK,hY,a3,hn,a1,hf,ht,hm,b0⟩:=h;simp only at gC gK hY a3 hn a1 hf ht hm b0 a8;have X0:=Ext.cut a8;have nK:(cut K M).next<=K:=Nat.le_refl _;have hp:=mJ hf ht hm;have a0:n<=60/\(0<=a.f/\a.f<(n:Int))/\(0<=a.t/\a.t<(n:Int))/\(0<=a.m/\a.m<5):=⟨hn,hf,ht,hm⟩;have hz:aK cur (iX n a)≠ -1->0<=aK cur (iX n a)/\aK cur (iX n a)<(y.length:Int):=fun e=>b0.resolve_left e
 have a7:0<=((bP (n:Int) (a.f) (a.t) (a.m)):Int)/\((bP (n:Int) (a.f) (a.t) (a.m)):Int)<(n*n*5):=by refine⟨hp.1,?_⟩;have:=hp.2;push_cast at this⊢;exact this
 have hk:iX n a<cur.length:=by rw[a1];unfold iX;omega
 have a5:0+((bP (n:Int) (a.f) (a.t) (a.m)):Int).toNat*1=iX n a:=by unfold iX;omega
 have a6:(cur.map i64)[0+((bP (n:Int) (a.f) (a.t) (a.m)):Int).toNat*1]?=some (i64 (aK cur (iX n a))):=by rw[a5,List.getElem?_map,eL hk];rfl
 have a9:0+((bP (n:Int) (a.f) (a.t) (a.m)):Int).toNat*1+1<=(cur.map i64).length:=by rw[a5,List.length_map];omega
 have a2:splice (cur.map i64) (0+((bP (n:Int) (a.f) (a.t) (a.m)):Int).toNat*1) [i64 num]=(cur.set (iX n a) num).map i64:=by rw[a5,jF _ _ _ (by simpa using hk),List.map_set]
 have a4:∀{bv:Bool} {cu:List Int} {M':aB},Ev prog [] 55 [pt C 0,.agg ⟨dE a⟩,i64 num] M (.bool bv) M'->Ext (cut K M) M'->M'.get K=some ⟨cu.map i64,3,1,0,true⟩->(∀id k,M.get id=some k->id≠K->M'.get id=some k)->bv=eN (eI y) (aK cur (iX n a)) a.c->cu=iV eI ⟨C,K,B,n,cur,y,a,num⟩->∃v M',TO prog 55 (Qr 79 53 eI (Mf 56) (fun y i=>0<=i/\i<(y.length:Int))) [pt C 0,.agg ⟨dE a⟩,i64 num] M v M':=
  fun h1 h2 h3 h4 e1 e2=>⟨_,_,h1,⟨C,K,B,n,cur,y,a,num⟩,hA,a8,h2,h4,by rw[e1],by rw[<-e2];exact h3⟩
 cases c0:aK cur (iX n a)==(-1:Int) with
 |true=>
  obtain⟨M',h1,h2,h3,h4,h5⟩:=w48A0 B C K n cur a num y (aK cur (iX n a)) hM X0 gC gK nK a3 hY a1 a0 hz c0 a7 a6 a9
  rw[a2] at h4
  exact a4 h1 h2 h4 h5 (by simp [eN,c0]) (by simp [iV,eN,c0])
 |false=>
  cases c1:decide (eI y (aK cur (iX n a))<=a.c) with
  |true=>
   obtain⟨M',h1,h2,h3,h4,h5⟩:=(Pi B C K n cur a num y (aK cur (iX n a)) hM X0 gC gK nK a3 hY a1 a0 hz c0).1 c1 a7 a6
   have e:eN (eI y) (aK cur (iX n a)) a.c=false:=by simp only [eN,c0,Bool.false_or];exact xAa (by have:=of_decide_eq_true c1;omega)
   exact a4 h1 h2 h4 h5 e.symm (by simp [iV,e])
  |false=>
   obtain⟨M',h1,h2,h3,h4,h5⟩:=(Pi B C K n cur a num y (aK cur (iX n a)) hM X0 gC gK nK a3 hY a1 a0 hz c0).2 c1 a7 a6 a9
   rw[a2] at h4
   have e:eN (eI y) (aK cur (iX n a)) a.c=true:=by simp only [eN,c0,Bool.false_or];exact xAb (by have:=of_decide_eq_false c1;omega)
   exact a4 h1 h2 h4 h5 e.symm (by simp [iV,e])
theorem w48E0(B C K n:Nat)(cur:List Int)(a:A7)(num:Int)(y:List E4)(z:Int){M M0:aB}(hM:aA M)(X0:Ext M0 M)(gC:M.get C=some ⟨[i64 n,aC K 0 (n*n*5) (n*n*5+1),.func (.func 54) ⟨[pt B 0]⟩ ⟨[]⟩],79,3,0,true⟩)(gK:M.get K=some ⟨cur.map i64,3,1,0,true⟩)(nK:M0.next<=K)(dCK:C≠K)(hY:(Im 56) y (pt B 0) (bS [(K,K+1)] M))(d7:cur.length=n*n*5)(a3:n<=60/\(0<=a.f/\a.f<(n:Int))/\(0<=a.t/\a.t<(n:Int))/\(0<=a.m/\a.m<5))(hz:z≠ -1->0<=z/\z<(y.length:Int))(a2:(z==(-1:Int))=true)(a7:0<=(bP (n:Int) a.f a.t a.m:Int)/\(bP (n:Int) a.f a.t a.m:Int)<(n*n*5))(d6:(cur.map i64)[0+(bP (n:Int) a.f a.t a.m:Int).toNat*1]?=some (i64 z))(b6:0+(bP (n:Int) a.f a.t a.m:Int).toNat*1+1<=(cur.map i64).length):∃M',Ev prog [] 55 [pt C 0,.agg ⟨(dE a)⟩,i64 num] M (.bool true) M'/\Ext M0 M'/\aA M'/\M'.get K=some ⟨splice (cur.map i64) (0+(bP (n:Int) a.f a.t a.m:Int).toNat*1) [i64 num],3,1,0,true⟩/\(∀id k,M.get id=some k->id≠K->M'.get id=some k):=by
 obtain⟨b1,M2,c8,c9,g5,E6,d5⟩:=bG hM ⟨(dE a),42,7,0,true⟩;have g9:=E6.old gC;have b9:=E6.old gK;have c3:=X0.trans E6;obtain⟨Rf,e3,a6,e1,d9,c7,a5,b2,c2⟩:=aJ (x:=((n,cur),a.f,a.t,a.m)) d5 Ga (⟨⟨_,_,_,_,rfl,⟨C,K,n*n*5+1,.func (.func 54) ⟨[pt B 0]⟩ ⟨[]⟩,rfl,(by rw[d7];exact g9),b9⟩,rfl,rfl,rfl⟩,a3⟩);have c0:=a5.old g9;have c1:=a5.old b9;have b0:Rf=i64 (bP (n:Int) a.f a.t a.m):=c2;subst b0;have b8:=c3.trans a5;obtain⟨a4,a0⟩:=uR a6 a6 [];have c4:=vW a0 b8;have b3:=uS a0 b2;have d0:=aV a0 c0;have d1:=aV a0 c1;obtain⟨a8,a1⟩:∃m:aB,m=(aB.mk a4.blks a4.next a4.hide (a4.log++a6.log)):=⟨_,rfl⟩;have c5:Ext M0 a8:=by rw[a1];exact Ext.join (b8) (c4)
 have b4:aA a8:=by rw[a1];exact b3
 have d2:=aV a1 d0;have d3:=aV a1 d1;obtain⟨a9,e2,d4,b7,c6,b5,e0⟩:=aX (o:=0+(bP (n:Int) a.f a.t a.m:Int).toNat*1) (v:=(i64 num)) (new:=splice (cur.map i64) (0+(bP (n:Int) a.f a.t a.m:Int).toNat*1) [i64 num]) c5 nK b4 Et d3 rfl rfl (Nat.zero_le _) b6 rfl;have d8:∀id k,M.get id=some k->id≠K->a9.get id=some k:=fun id k g h_K=>by
  have g:=E6.old g;have g:=a5.old g;have g:a4.get id=some k:=by rw[a0];exact g
  have g:a8.get id=some k:=by rw[a1];exact g
  have g:=((fun id h _=>b7 id h) id h_K (aB.lt_of_get g)).trans g;exact g
 subst a0;subst a1;try dsimp only at *
 exact⟨a9,kA 60 [bL 1 (pt b1 0) M2,aL 9 (i64 a.f),aL 13 (i64 a.t),aL 17 (i64 a.m),bL 19 (i64 (bP (n:Int) a.f a.t a.m)) a6,aL 29 (aC K 0 (n*n*5) (n*n*5+1)),aI 33,aL 35 (i64 z),aZ 44,aZ 46,aZ 48,aZ 50,aZ 52,aZ 54,aZ 56,aZ 58,aZ 60,aZ 63,aL 72 (aC K 0 (n*n*5) (n*n*5+1)),aI 78,iP 80 a9] Tryz.func55 zJ Qy (fun B=>jL (fH 84 Vd (eZ _))) (hk (qE (fE prog 42 (.agg ⟨(dE a)⟩)) c8 c9 (by kernel_rfl)) (hk (lO 0 bU g5 rfl) (hk (lO 1 bU g5 rfl) (hk (lO 2 bU g5 rfl) (hk (qc 84 c7 e1 d9) (hk (lO 1 jJ c0 rfl) (hk (qI (bP (n:Int) a.f a.t a.m) (n*n*5) a7.1 a7.2) (hk (lD (aY (a:=⟨K,0+(bP (n:Int) a.f a.t a.m:Int).toNat*1,none⟩) bU c1 d6)) (hk (bF (x:=!(z==(-1:Int))) (by rw[a2];rfl)) (hk (bF (x:=!(z==(-1:Int))) (by rw[a2];rfl)) (hk (bF (x:=!(z==(-1:Int))) (by rw[a2];rfl)) (hk (bF (x:=!(z==(-1:Int))) (by rw[a2];rfl)) (hk (bF (x:=!(z==(-1:Int))) (by rw[a2];rfl)) (hk (bF (x:=!(z==(-1:Int))) (by rw[a2];rfl)) (hk (bF (x:=!(z==(-1:Int))) (by rw[a2];rfl)) (hk (bF (x:=!(z==(-1:Int))) (by rw[a2];rfl)) (hk (bF (x:=!(z==(-1:Int))) (by rw[a2];rfl)) (hk (bF (x:=!(z==(-1:Int))) (by rw[a2];rfl)) (hq (qT (bZ [] [])) (cH (by simp)) (hk (lO 1 jJ d2 rfl) (hk (qI (bP (n:Int) a.f a.t a.m) (n*n*5) a7.1 a7.2) (hk (dB e2) hn)))))))))))))))))))))),c6,b5,d4,d8⟩
theorem Pj(B C K n:Nat)(cur:List Int)(a:A7)(num:Int)(y:List E4)(z:Int){M M0:aB}(hM:aA M)(X0:Ext M0 M)(gC:M.get C=some ⟨[i64 n,aC K 0 (n*n*5) (n*n*5+1),.func (.func 54) ⟨[pt B 0]⟩ ⟨[]⟩],79,3,0,true⟩)(gK:M.get K=some ⟨cur.map i64,3,1,0,true⟩)(nK:M0.next<=K)(dCK:C≠K)(hY:(Im 56) y (pt B 0) (bS [(K,K+1)] M))(g4:cur.length=n*n*5)(b5:n<=60/\(0<=a.f/\a.f<(n:Int))/\(0<=a.t/\a.t<(n:Int))/\(0<=a.m/\a.m<5))(hz:z≠ -1->0<=z/\z<(y.length:Int))(a2:(z==(-1:Int))=false):(∀(cc1:(decide ((gI y z)<=a.c))=true)(hi0:0<=(bP (n:Int) a.f a.t a.m:Int)/\(bP (n:Int) a.f a.t a.m:Int)<(n*n*5))(hc1:(cur.map i64)[0+(bP (n:Int) a.f a.t a.m:Int).toNat*1]?=some (i64 z)),∃M',Ev prog [] 55 [pt C 0,.agg ⟨(dE a)⟩,i64 num] M (.bool false) M'/\Ext M0 M'/\aA M'/\M'.get K=some ⟨cur.map i64,3,1,0,true⟩/\(∀id k,M.get id=some k->id≠K->M'.get id=some k))/\(∀(cc1:(decide ((gI y z)<=a.c))=false)(hi0:0<=(bP (n:Int) a.f a.t a.m:Int)/\(bP (n:Int) a.f a.t a.m:Int)<(n*n*5))(hc1:(cur.map i64)[0+(bP (n:Int) a.f a.t a.m:Int).toNat*1]?=some (i64 z))(hof2:0+(bP (n:Int) a.f a.t a.m:Int).toNat*1+1<=(cur.map i64).length),∃M',Ev prog [] 55 [pt C 0,.agg ⟨(dE a)⟩,i64 num] M (.bool true) M'/\Ext M0 M'/\aA M'/\M'.get K=some ⟨splice (cur.map i64) (0+(bP (n:Int) a.f a.t a.m:Int).toNat*1) [i64 num],3,1,0,true⟩/\(∀id k,M.get id=some k->id≠K->M'.get id=some k)):=by
 obtain⟨b1,M2,c7,e3,g5,E6,g3⟩:=bG hM ⟨(dE a),42,7,0,true⟩;have F8:=kZ (R:=(Im 56)) hY c7 E6;have g9:=E6.old gC;have e4:=E6.old gK;have f7:=X0.trans E6;obtain⟨Rf,g7,a3,f0,e8,e2,b2,d5,f4⟩:=aJ (x:=((n,cur),a.f,a.t,a.m)) g3 Ga (⟨⟨_,_,_,_,rfl,⟨C,K,n*n*5+1,.func (.func 54) ⟨[pt B 0]⟩ ⟨[]⟩,rfl,(by rw[g4];exact g9),e4⟩,rfl,rfl,rfl⟩,b5⟩);have f5:=jR (R:=(Im 56)) F8 b2;have c9:=b2.old g9;have d0:=b2.old e4;have e5:=b2.old g5;have c8:Rf=i64 (bP (n:Int) a.f a.t a.m):=f4;subst c8;have b7:=f7.trans b2;obtain⟨c2,a1⟩:=uR a3 a3 [];have e1:=vW a1 b7;have c0:c2.log=[]:=by rw[a1]
 have d6:=uS a1 d5;have d1:=aV a1 c9;have e6:=aV a1 d0;have a7:=aB.lt_of_get e5;have e7:=aV a1 e5;have f6:=cZ (R:=(Im 56)) (M':=c2) f5 (fun id b h=>by rw[a1];exact h);obtain⟨f2,g8,a6,f1,e9,c3,a9,b9,e0⟩:=aJ (x:=(y,z)) d6 con54 (⟨⟨_,_,rfl,dI (R:=(Im 56)) f6,rfl⟩,hz (by intro e;rw[e] at a2;cases a2)⟩);refine⟨?_,?_⟩
 ·intro cc1 hi0 hc1;have d2:=a9.old e6;have d3:=a9.old e7;have b3:f2=i64 (gI y z):=e0;subst b3;have b6:a6.log=[]:=by rw[<-c3];exact c0
  have b8:=e1.trans a9;obtain⟨b0,a0⟩:∃m:aB,m=(aB.mk a6.blks a6.next a6.hide (a6.log++a3.log)):=⟨_,rfl⟩;have c6:Ext M0 b0:=by rw[a0];exact Ext.join (b7) (b8)
  have b4:aA b0:=by rw[a0];exact b9
  have d4:=aV a0 d2;have d8:∀id k,M.get id=some k->id≠K->b0.get id=some k:=fun id k g h_K=>by
   have g:=E6.old g;have g:=b2.old g;have g:c2.get id=some k:=by rw[a1];exact g
   have g:=a9.old g;have g:b0.get id=some k:=by rw[a0];exact g
   exact g
  have c1:a3.hide=a6.hide:=((b7).hide.trans (b8).hide.symm);obtain⟨a8,a5,c4,a4⟩:=a6;try dsimp only at c1
  subst c1;subst a1;subst a0;try dsimp only at *
  exact⟨_,kA 60 [bL 1 (pt b1 0) M2,aL 9 (i64 a.f),aL 13 (i64 a.t),aL 17 (i64 a.m),bL 19 (i64 (bP (n:Int) a.f a.t a.m)) a3,aL 29 (aC K 0 (n*n*5) (n*n*5+1)),aI 33,aL 35 (i64 z),aI 44,aI 46,aI 48,aI 50,aL 51 (.func (.func 54) ⟨[pt B 0]⟩ ⟨[]⟩),aI 52,aI 54,bL 55 (i64 (gI y z)) (aB.mk a8 a5 a3.hide a4),aI 56,aI 58,aL 59 (i64 a.c),aI 60,aI 63,aI 64] Tryz.func55 zJ Qy (fun B=>jL (fH 54 Q54 (fH 84 Vd (eZ _)))) (hk (qE (fE prog 42 (.agg ⟨(dE a)⟩)) c7 e3 (by kernel_rfl)) (hk (lO 0 bU g5 rfl) (hk (lO 1 bU g5 rfl) (hk (lO 2 bU g5 rfl) (hk (qc 84 e2 f0 e8) (hk (lO 1 jJ c9 rfl) (hk (qI (bP (n:Int) a.f a.t a.m) (n*n*5) hi0.1 hi0.2) (hk (lD (aY (a:=⟨K,0+(bP (n:Int) a.f a.t a.m:Int).toNat*1,none⟩) bU d0 hc1)) (hk (bT (x:=!(z==(-1:Int))) (by rw[a2];rfl)) (hk (bT (x:=!(z==(-1:Int))) (by rw[a2];rfl)) (hk (bT (x:=!(z==(-1:Int))) (by rw[a2];rfl)) (hk (bT (x:=!(z==(-1:Int))) (by rw[a2];rfl)) (hk (lO 2 Vl d1 rfl) (hk (bT (x:=!(z==(-1:Int))) (by rw[a2];rfl)) (hk (bT (x:=!(z==(-1:Int))) (by rw[a2];rfl)) (hk (qc 54 c3 f1 e9) (hk (bT (x:=!(z==(-1:Int))) (by rw[a2];rfl)) (hk (bT (x:=!(z==(-1:Int))) (by rw[a2];rfl)) (hq (qL 3 b1 3 (aB.mk a8 a5 (aP 519 [⟨8,1,a3.next,a5⟩,⟨6,1,a3.next,a3.next⟩]++a3.hide) a4) (i64 a.c)) (lC bU (bM.2 ⟨cV (by simp;omega),d3⟩) rfl) (hk (fQ a7) (hk (bT (x:=!(z==(-1:Int))) (by rw[a2];rfl)) (hk (bT (x:=!(z==(-1:Int))) (by rw[a2];rfl)) (hq (qT (bZ [b1] a4)) (cH (by rw[b6];simp<;>omega)) (hk (bT cc1) hn)))))))))))))))))))))))),c6,b4,d4,d8⟩
 ·intro cc1 hi0 hc1 hof2;have g0:=a9.old d1;have d2:=a9.old e6;have d3:=a9.old e7;have b3:f2=i64 (gI y z):=e0;subst b3;have b6:a6.log=[]:=by rw[<-c3];exact c0
  have b8:=e1.trans a9;obtain⟨b0,a0⟩:∃m:aB,m=(aB.mk a6.blks a6.next a6.hide (a6.log++a3.log)):=⟨_,rfl⟩;have c6:Ext M0 b0:=by rw[a0];exact Ext.join (b7) (b8)
  have b4:aA b0:=by rw[a0];exact b9
  have g1:=aV a0 g0;have d4:=aV a0 d2;obtain⟨c5,q62,g2,d9,f8,d7,g6⟩:=aX (o:=0+(bP (n:Int) a.f a.t a.m:Int).toNat*1) (v:=(i64 num)) (new:=splice (cur.map i64) (0+(bP (n:Int) a.f a.t a.m:Int).toNat*1) [i64 num]) c6 nK b4 Et d4 rfl rfl (Nat.zero_le _) hof2 rfl;have d8:∀id k,M.get id=some k->id≠K->c5.get id=some k:=fun id k g h_K=>by
   have g:=E6.old g;have g:=b2.old g;have g:c2.get id=some k:=by rw[a1];exact g
   have g:=a9.old g;have g:b0.get id=some k:=by rw[a0];exact g
   have g:=((fun id h _=>d9 id h) id h_K (aB.lt_of_get g)).trans g;exact g
  have c1:a3.hide=a6.hide:=((b7).hide.trans (b8).hide.symm);obtain⟨a8,a5,c4,a4⟩:=a6;try dsimp only at c1
  subst c1;subst a1;subst a0;try dsimp only at *
  exact⟨c5,kA 60 [bL 1 (pt b1 0) M2,aL 9 (i64 a.f),aL 13 (i64 a.t),aL 17 (i64 a.m),bL 19 (i64 (bP (n:Int) a.f a.t a.m)) a3,aL 29 (aC K 0 (n*n*5) (n*n*5+1)),aI 33,aL 35 (i64 z),aI 44,aI 46,aI 48,aI 50,aL 51 (.func (.func 54) ⟨[pt B 0]⟩ ⟨[]⟩),aI 52,aI 54,bL 55 (i64 (gI y z)) (aB.mk a8 a5 a3.hide a4),aI 56,aI 58,aL 59 (i64 a.c),aI 60,aI 63,aZ 64,aL 72 (aC K 0 (n*n*5) (n*n*5+1)),aI 78,iP 80 c5] Tryz.func55 zJ Qy (fun B=>jL (fH 54 Q54 (fH 84 Vd (eZ _)))) (hk (qE (fE prog 42 (.agg ⟨(dE a)⟩)) c7 e3 (by kernel_rfl)) (hk (lO 0 bU g5 rfl) (hk (lO 1 bU g5 rfl) (hk (lO 2 bU g5 rfl) (hk (qc 84 e2 f0 e8) (hk (lO 1 jJ c9 rfl) (hk (qI (bP (n:Int) a.f a.t a.m) (n*n*5) hi0.1 hi0.2) (hk (lD (aY (a:=⟨K,0+(bP (n:Int) a.f a.t a.m:Int).toNat*1,none⟩) bU d0 hc1)) (hk (bT (x:=!(z==(-1:Int))) (by rw[a2];rfl)) (hk (bT (x:=!(z==(-1:Int))) (by rw[a2];rfl)) (hk (bT (x:=!(z==(-1:Int))) (by rw[a2];rfl)) (hk (bT (x:=!(z==(-1:Int))) (by rw[a2];rfl)) (hk (lO 2 Vl d1 rfl) (hk (bT (x:=!(z==(-1:Int))) (by rw[a2];rfl)) (hk (bT (x:=!(z==(-1:Int))) (by rw[a2];rfl)) (hk (qc 54 c3 f1 e9) (hk (bT (x:=!(z==(-1:Int))) (by rw[a2];rfl)) (hk (bT (x:=!(z==(-1:Int))) (by rw[a2];rfl)) (hq (qL 3 b1 3 (aB.mk a8 a5 (aP 519 [⟨8,1,a3.next,a5⟩,⟨6,1,a3.next,a3.next⟩]++a3.hide) a4) (i64 a.c)) (lC bU (bM.2 ⟨cV (by simp;omega),d3⟩) rfl) (hk (fQ a7) (hk (bT (x:=!(z==(-1:Int))) (by rw[a2];rfl)) (hk (bT (x:=!(z==(-1:Int))) (by rw[a2];rfl)) (hq (qT (bZ [b1] a4)) (cH (by rw[b6];simp<;>omega)) (hk (bF cc1) (hk (lO 1 jJ g1 rfl) (hk (qI (bP (n:Int) a.f a.t a.m) (n*n*5) hi0.1 hi0.2) (hk (dB q62) hn))))))))))))))))))))))))))),f8,d7,g2,d8⟩
theorem Ym{x:LX (List E4)}{lv:List Value}{M:aB}(hM:aA M)(h:(Qr 79 54 gI (Im 56) (fun y i=>0<=i/\i<(y.length:Int))).A x lv M)(a8:x.K<=M.next):∃v M',TO prog 55 (Qr 79 54 gI (Im 56) (fun y i=>0<=i/\i<(y.length:Int))) lv M v M':=by
 have hA:=h;obtain⟨C,K,B,n,cur,y,a,num⟩:=x;obtain⟨rfl,gC,gK,hY,a3,hn,a1,hf,ht,hm,b0⟩:=h;simp only at gC gK hY a3 hn a1 hf ht hm b0 a8;have X0:=Ext.cut a8;have nK:(cut K M).next<=K:=Nat.le_refl _;have hp:=mJ hf ht hm;have a0:n<=60/\(0<=a.f/\a.f<(n:Int))/\(0<=a.t/\a.t<(n:Int))/\(0<=a.m/\a.m<5):=⟨hn,hf,ht,hm⟩;have hz:aK cur (iX n a)≠ -1->0<=aK cur (iX n a)/\aK cur (iX n a)<(y.length:Int):=fun e=>b0.resolve_left e
 have a7:0<=((bP (n:Int) (a.f) (a.t) (a.m)):Int)/\((bP (n:Int) (a.f) (a.t) (a.m)):Int)<(n*n*5):=by refine⟨hp.1,?_⟩;have:=hp.2;push_cast at this⊢;exact this
 have hk:iX n a<cur.length:=by rw[a1];unfold iX;omega
 have a5:0+((bP (n:Int) (a.f) (a.t) (a.m)):Int).toNat*1=iX n a:=by unfold iX;omega
 have a6:(cur.map i64)[0+((bP (n:Int) (a.f) (a.t) (a.m)):Int).toNat*1]?=some (i64 (aK cur (iX n a))):=by rw[a5,List.getElem?_map,eL hk];rfl
 have a9:0+((bP (n:Int) (a.f) (a.t) (a.m)):Int).toNat*1+1<=(cur.map i64).length:=by rw[a5,List.length_map];omega
 have a2:splice (cur.map i64) (0+((bP (n:Int) (a.f) (a.t) (a.m)):Int).toNat*1) [i64 num]=(cur.set (iX n a) num).map i64:=by rw[a5,jF _ _ _ (by simpa using hk),List.map_set]
 have a4:∀{bv:Bool} {cu:List Int} {M':aB},Ev prog [] 55 [pt C 0,.agg ⟨dE a⟩,i64 num] M (.bool bv) M'->Ext (cut K M) M'->M'.get K=some ⟨cu.map i64,3,1,0,true⟩->(∀id k,M.get id=some k->id≠K->M'.get id=some k)->bv=eN (gI y) (aK cur (iX n a)) a.c->cu=iV gI ⟨C,K,B,n,cur,y,a,num⟩->∃v M',TO prog 55 (Qr 79 54 gI (Im 56) (fun y i=>0<=i/\i<(y.length:Int))) [pt C 0,.agg ⟨dE a⟩,i64 num] M v M':=
  fun h1 h2 h3 h4 e1 e2=>⟨_,_,h1,⟨C,K,B,n,cur,y,a,num⟩,hA,a8,h2,h4,by rw[e1],by rw[<-e2];exact h3⟩
 cases c0:aK cur (iX n a)==(-1:Int) with
 |true=>
  obtain⟨M',h1,h2,h3,h4,h5⟩:=w48E0 B C K n cur a num y (aK cur (iX n a)) hM X0 gC gK nK a3 hY a1 a0 hz c0 a7 a6 a9
  rw[a2] at h4
  exact a4 h1 h2 h4 h5 (by simp [eN,c0]) (by simp [iV,eN,c0])
 |false=>
  cases c1:decide (gI y (aK cur (iX n a))<=a.c) with
  |true=>
   obtain⟨M',h1,h2,h3,h4,h5⟩:=(Pj B C K n cur a num y (aK cur (iX n a)) hM X0 gC gK nK a3 hY a1 a0 hz c0).1 c1 a7 a6
   have e:eN (gI y) (aK cur (iX n a)) a.c=false:=by simp only [eN,c0,Bool.false_or];exact xAa (by have:=of_decide_eq_true c1;omega)
   exact a4 h1 h2 h4 h5 e.symm (by simp [iV,e])
  |false=>
   obtain⟨M',h1,h2,h3,h4,h5⟩:=(Pj B C K n cur a num y (aK cur (iX n a)) hM X0 gC gK nK a3 hY a1 a0 hz c0).2 c1 a7 a6 a9
   rw[a2] at h4
   have e:eN (gI y) (aK cur (iX n a)) a.c=true:=by simp only [eN,c0,Bool.false_or];exact xAb (by have:=of_decide_eq_false c1;omega)
   exact a4 h1 h2 h4 h5 e.symm (by simp [iV,e])
open Tryz
theorem nn5{n:Nat}(hn:1<=n/\n<=24):IntKind.wrap .i64 (IntKind.wrap .i64 ((n:Int)*(n:Int))*(5:Int))=((n*n*5:Nat):Int):=by have h1:(0:Int)<=(n:Int)*(n:Int):=Int.mul_nonneg (by omega) (by omega);have h2:(n:Int)*(n:Int)<=24*24:=Int.mul_le_mul (by omega) (by omega) (by omega) (by omega);rw[Go.Am.fU (i:=(n:Int)*(n:Int)) (by omega) (by omega),Go.Am.fU (by omega) (by omega)];push_cast;rfl
theorem rK52:Tryz.f52.results= #[.tmp 4]:=by kernel_rfl
theorem hw45A(n B:Nat){M:aB}(hM:aA M)(a5:1<=n/\n<=24):∃v_ M',Ev prog [] 52 [i64 n,.func (.func 53) ⟨[pt B 0]⟩ ⟨[]⟩] M v_ M'/\Ext M M'/\aA M'/\∃C K,v_=pt C 0/\M.next<=C/\M.next<=K/\C≠K/\M'.get C=some ⟨[i64 n,aC K 0 (n*n*5) (n*n*5+1),.func (.func 53) ⟨[pt B 0]⟩ ⟨[]⟩],79,3,0,true⟩/\M'.get K=some ⟨(iQ n).map i64,3,1,0,true⟩:=by obtain⟨b1,M2,c2,c3,g5,E6,c6⟩:=bG hM ⟨[i64 (-1)],3,1,0,true⟩;have X9:=(Ext.refl M).trans E6;have a3:(IntKind.wrap .i64 ((IntKind.wrap .i64 ((n:Int)*(n:Int)))*(5:Int)))=(((n*n*5):Nat):Int):=nn5 a5;obtain⟨w11,c9,b9,c8,c7,c1,b7,b0,b8⟩:=aJ (x:=((),n*n*5)) c6 Si (⟨⟨_,_,rfl,⟨_,rfl,g5⟩,congrArg i64 a3⟩,⟨n,a5,.inr rfl⟩⟩);obtain⟨a6,a9,a2,a4⟩:=b8;subst a9;have a2:=Nat.le_trans (X9).next a2;have b6:=X9.trans b7;obtain⟨a7,b5,a1,a8,c4,b4,b2⟩:=bG b0 ⟨[i64 (n:Int),aC a6 0 (n*n*5) (n*n*5+1),.func (.func 53) ⟨[pt B 0]⟩ ⟨[]⟩],79,3,0,true⟩;have b3:=kN a1 b6;have a0:=dL a4 a1;have c5:=b4.old a4;have c0:=b6.trans b4;exact⟨pt a7 0,b5,kA 60 [bL 3 (aC b1 0 1 2) M2,bL 13 (aC a6 0 (n*n*5) (n*n*5+1)) b9,bL 25 (pt a7 0) b5] Tryz.func52 Uf rK52 (fun B=>jL (fH 51 Q51 (eZ _))) (hk (qJ (fun x=>aC x 0 1 2) (bE prog 22 1 [(0,(i64 (-1)))]) c2 c3 (by kernel_rfl)) (hk (qc 51 c1 c8 c7) (hk (qE (fE prog 79 (.agg ⟨[i64 (n:Int),aC a6 0 (n*n*5) (n*n*5+1),.func (.func 53) ⟨[pt B 0]⟩ ⟨[]⟩]⟩)) a1 a8 (by kernel_rfl)) hn))),c0,b2,⟨a7,a6,rfl,b3,a2,Ne.symm a0,c4,by unfold iQ;rw[List.map_replicate];exact c5⟩⟩
theorem hw45E(n B:Nat){M:aB}(hM:aA M)(a5:1<=n/\n<=24):∃v_ M',Ev prog [] 52 [i64 n,.func (.func 54) ⟨[pt B 0]⟩ ⟨[]⟩] M v_ M'/\Ext M M'/\aA M'/\∃C K,v_=pt C 0/\M.next<=C/\M.next<=K/\C≠K/\M'.get C=some ⟨[i64 n,aC K 0 (n*n*5) (n*n*5+1),.func (.func 54) ⟨[pt B 0]⟩ ⟨[]⟩],79,3,0,true⟩/\M'.get K=some ⟨(iQ n).map i64,3,1,0,true⟩:=by obtain⟨b1,M2,c2,c3,g5,E6,c6⟩:=bG hM ⟨[i64 (-1)],3,1,0,true⟩;have X9:=(Ext.refl M).trans E6;have a3:(IntKind.wrap .i64 ((IntKind.wrap .i64 ((n:Int)*(n:Int)))*(5:Int)))=(((n*n*5):Nat):Int):=nn5 a5;obtain⟨w11,c9,b9,c8,c7,c1,b7,b0,b8⟩:=aJ (x:=((),n*n*5)) c6 Si (⟨⟨_,_,rfl,⟨_,rfl,g5⟩,congrArg i64 a3⟩,⟨n,a5,.inr rfl⟩⟩);obtain⟨a6,a9,a2,a4⟩:=b8;subst a9;have a2:=Nat.le_trans (X9).next a2;have b6:=X9.trans b7;obtain⟨a7,b5,a1,a8,c4,b4,b2⟩:=bG b0 ⟨[i64 (n:Int),aC a6 0 (n*n*5) (n*n*5+1),.func (.func 54) ⟨[pt B 0]⟩ ⟨[]⟩],79,3,0,true⟩;have b3:=kN a1 b6;have a0:=dL a4 a1;have c5:=b4.old a4;have c0:=b6.trans b4;exact⟨pt a7 0,b5,kA 60 [bL 3 (aC b1 0 1 2) M2,bL 13 (aC a6 0 (n*n*5) (n*n*5+1)) b9,bL 25 (pt a7 0) b5] Tryz.func52 Uf rK52 (fun B=>jL (fH 51 Q51 (eZ _))) (hk (qJ (fun x=>aC x 0 1 2) (bE prog 22 1 [(0,(i64 (-1)))]) c2 c3 (by kernel_rfl)) (hk (qc 51 c1 c8 c7) (hk (qE (fE prog 79 (.agg ⟨[i64 (n:Int),aC a6 0 (n*n*5) (n*n*5+1),.func (.func 54) ⟨[pt B 0]⟩ ⟨[]⟩]⟩)) a1 a8 (by kernel_rfl)) hn))),c0,b2,⟨a7,a6,rfl,b3,a2,Ne.symm a0,c4,by unfold iQ;rw[List.map_replicate];exact c5⟩⟩
def aAi(fc:FuncId)(x:Nat×Nat)(nx:Nat)(v:Value)(M:aB):Prop:=∃C K,v=pt C 0/\nx<=C/\nx<=K/\C≠K/\M.get C=some ⟨[i64 (x.1:Int),aC K 0 (x.1*x.1*5) (x.1*x.1*5+1),.func (.func fc) ⟨[pt x.2 0]⟩ ⟨[]⟩],79,3,0,true⟩/\M.get K=some ⟨(iQ x.1).map i64,3,1,0,true⟩
instance(fc:FuncId):AQ (aAi fc):=⟨fun hE ⟨C,K,h1,h2,h3,h4,h5,h6⟩=>⟨C,K,h1,h2,h3,h4,hE _ _ h5,hE _ _ h6⟩⟩
def pCl(fc:FuncId)(B:Nat)(v:Value)(_:aB):Prop:=v= .func (.func fc) ⟨[pt B 0]⟩ ⟨[]⟩
instance(fc:FuncId):AP (pCl fc):=⟨fun h k=>by unfold pCl at h k;rw[h] at k;simpa [pt] using k,fun _ h=>h⟩
abbrev Q52A:=FC (hJ (lT pN (pCl 53)) fun x=>1<=x.1/\x.1<=24) (aAi 53) id
theorem Yk{x:Nat×Nat}{lv:List Value}{M:aB}(hM:aA M)(h:(hJ (lT pN (pCl 53)) fun x=>1<=x.1/\x.1<=24) x lv M):∃v M',lK prog [] 52 Q52A lv M v M':=by refine FC.con h ?_;obtain⟨⟨g0,g1,rfl,k0,k1⟩,hn⟩:=h;obtain⟨n,B⟩:=x;obtain rfl:=k0;obtain rfl:=k1;obtain⟨v,M',h1,h2,_,h3⟩:=hw45A n B hM hn;exact⟨v,M',h1,h2,h3⟩
abbrev Q52E:=FC (hJ (lT pN (pCl 54)) fun x=>1<=x.1/\x.1<=24) (aAi 54) id
theorem Yl{x:Nat×Nat}{lv:List Value}{M:aB}(hM:aA M)(h:(hJ (lT pN (pCl 54)) fun x=>1<=x.1/\x.1<=24) x lv M):∃v M',lK prog [] 52 Q52E lv M v M':=by refine FC.con h ?_;obtain⟨⟨g0,g1,rfl,k0,k1⟩,hn⟩:=h;obtain⟨n,B⟩:=x;obtain rfl:=k0;obtain rfl:=k1;obtain⟨v,M',h1,h2,_,h3⟩:=hw45E n B hM hn;exact⟨v,M',h1,h2,h3⟩
open Tryz
theorem Pz:(prog.underlying 53).map eC=some false:=by kernel_rfl
theorem dS53:(prog.info? 53).map (·.size)=some 1:=by kernel_rfl
def pBr(x:Nat×List Int×List Bool)(v:Value)(M:aB):Prop:=∃B C G cg c0 c1 c2 c3 c4 c5,v=pt B 0/\M.get B=some ⟨[c0,c1,c2,c3,c4,c5,pt C 0,aC G 0 x.1 cg],56,8,0,true⟩/\qU 79 (x.1,x.2.1) (pt C 0) M/\M.get G=some ⟨x.2.2.map .bool,4,1,0,true⟩
instance:AP pBr:=⟨fun{x y v M} ⟨B,C,G,cg,c0,c1,c2,c3,c4,c5,h1,h2,h3,h4⟩ ⟨B',C',G',cg',d0,d1,d2,d3,d4,d5,k1,k2,k3,k4⟩=>by
 rw[h1] at k1;simp only [pt,Value.pointer.injEq,Option.some.injEq,Addr.mk.injEq,and_true] at k1;subst k1;rw[h2] at k2;simp only [Option.some.injEq,aR.mk.injEq,List.cons.injEq,Value.slice.injEq,Addr.mk.injEq,and_true,true_and,pt,Value.pointer.injEq] at k2;obtain⟨_,_,_,_,_,_,rfl,⟨rfl,_⟩⟩:=k2;rw[h4] at k4;simp only [Option.some.injEq,aR.mk.injEq,and_true] at k4;have e1:x.2.2=y.2.2:=(List.map_inj_right (fun x y h=>by simpa using h)).1 k4;have e2:=AP.uniq (R:=qU 79) h3 k3;obtain⟨a,b,c⟩:=x;obtain⟨a',b',c'⟩:=y;simp_all,fun hE ⟨B,C,G,cg,c0,c1,c2,c3,c4,c5,h1,h2,h3,h4⟩=>⟨B,C,G,cg,c0,c1,c2,c3,c4,c5,h1,hE _ _ h2,AP.ext (R:=qU 79) hE h3,hE _ _ h4⟩⟩
def pLook(fl:FuncId)(_:Unit)(v:Value)(_:aB):Prop:=v= .func (.func fl) ⟨[]⟩ ⟨[]⟩
instance(fl:FuncId):AP (pLook fl):=⟨fun _ _=>rfl,fun _ h=>h⟩
theorem riOn(bB C K G n ck cg:Nat)(c0 c1 c2 c3 c4 c5 cl:Value)(cur:List Int)(gone:List Bool)(v u m:Nat)(S:Value)(l:List Int){M M0:aB}(hM:aA M)(X0:Ext M0 M)(a0:M0.get bB=some ⟨[c0,c1,c2,c3,c4,c5,pt C 0,aC G 0 n cg],56,8,0,true⟩)(a7:M0.get C=some ⟨[i64 n,aC K 0 cur.length ck,cl],79,3,0,true⟩)(a8:M0.get K=some ⟨cur.map i64,3,1,0,true⟩)(gG0:M0.get G=some ⟨gone.map Value.bool,4,1,0,true⟩)(a1:n<=60)(b1:cur.length=n*n*5)(hv:v<n)(hgl:gone.length=n)(hu:u<n)(hA:cM 3 1 M0 [bB,C,K,G] l.length (l.map i64) S M)(hl30:l.length<1073741824)(a2:(decide ((m:Int)<(5:Int)))=true)(a5:((aK cur (aU n .out v u m))==(-1:Int))=true):∃T1 M',Rd prog [] (q62.loopAt 2) Tryz.f62.ntmps (fr [(0,(pt bB 0)),(1,(.func (.func 63) ⟨[]⟩ ⟨[]⟩)),(2,(i64 (v:Int))),(7,S),(8,(i64 (u:Int))),(15,(aC G 0 n cg)),(16,(i64 (n:Int))),(17,(i64 (u:Int))),(23,(i64 (m:Int)))]) M .normal T1 M'/\[0,1,2,7,8,15,16,17,23].map T1.get=[some (pt bB 0),some (.func (.func 63) ⟨[]⟩ ⟨[]⟩),some (i64 (v:Int)),some S,some (i64 (u:Int)),some (aC G 0 n cg),some (i64 (n:Int)),some (i64 (u:Int)),some (i64 (IntKind.wrap .i64 ((m:Int)+(1:Int))))]/\Ext M0 M'/\aA M'/\cM 3 1 M0 [bB,C,K,G] l.length (l.map i64) S M':=by have a9:=X0.old a0;have gC:=X0.old a7;have gK:=X0.old a8;obtain⟨w1,N2,M3,p4,l5,e6,E7,b0,F9⟩:=aJ (x:=((n,cur),v,u,m)) hM Xj (⟨⟨_,_,_,_,rfl,⟨C,K,_,_,rfl,gC,gK⟩,rfl,rfl,rfl⟩,a1,b1,hv,hu,(by have:=of_decide_eq_true a2;show m<5;omega)⟩);have a3:=hA.ext E7;have a6:w1=i64 (aK cur (aU n .out v u m)):=F9;subst a6;have a4:=X0.trans E7;obtain⟨T1,h1,h2⟩:=eG 60 [aI 2,aL 16 (pt C 0),bL 24 (i64 (aK cur (aU n .out v u m))) M3,aZ 31] (fun B=>jL (fH 63 Q63 (eZ _))) (hk (bT a2) (hk (lO 6 Pz a9 rfl) (hk (qc 63 e6 p4 l5) (hk (bF (x:=!((aK cur (aU n .out v u m))==(-1:Int))) (by rw[a5];rfl)) hn))));exact⟨T1,M3,h1,h2,a4,b0,a3⟩
theorem riOa(bB C K G n ck cg:Nat)(c0 c1 c2 c3 c4 c5 cl:Value)(cur:List Int)(gone:List Bool)(v u m:Nat)(S:Value)(l:List Int){M M0:aB}(hM:aA M)(X0:Ext M0 M)(a5:M0.get bB=some ⟨[c0,c1,c2,c3,c4,c5,pt C 0,aC G 0 n cg],56,8,0,true⟩)(e2:M0.get C=some ⟨[i64 n,aC K 0 cur.length ck,cl],79,3,0,true⟩)(e4:M0.get K=some ⟨cur.map i64,3,1,0,true⟩)(e3:M0.get G=some ⟨gone.map Value.bool,4,1,0,true⟩)(a8:n<=60)(e7:cur.length=n*n*5)(hv:v<n)(hgl:gone.length=n)(hu:u<n)(hA:cM 3 1 M0 [bB,C,K,G] l.length (l.map i64) S M)(a9:l.length<1073741824)(b3:(decide ((m:Int)<(5:Int)))=true)(d6:((aK cur (aU n .out v u m))==(-1:Int))=false):∃T1 M' a2,Rd prog [] (q62.loopAt 2) Tryz.f62.ntmps (fr [(0,(pt bB 0)),(1,(.func (.func 63) ⟨[]⟩ ⟨[]⟩)),(2,(i64 (v:Int))),(7,S),(8,(i64 (u:Int))),(15,(aC G 0 n cg)),(16,(i64 (n:Int))),(17,(i64 (u:Int))),(23,(i64 (m:Int)))]) M .normal T1 M'/\[0,1,2,7,8,15,16,17,23].map T1.get=[some (pt bB 0),some (.func (.func 63) ⟨[]⟩ ⟨[]⟩),some (i64 (v:Int)),some a2,some (i64 (u:Int)),some (aC G 0 n cg),some (i64 (n:Int)),some (i64 (u:Int)),some (i64 (IntKind.wrap .i64 ((m:Int)+(1:Int))))]/\Ext M0 M'/\aA M'/\cM 3 1 M0 [bB,C,K,G] (l.length+1) (l.map i64++ [i64 (aK cur (aU n .out v u m))]) a2 M':=by have c8:=X0.old a5;have gC:=X0.old e2;have gK:=X0.old e4;have gG:=X0.old e3;obtain⟨w1,N2,M3,p4,l5,e6,E7,e5,F9⟩:=aJ (x:=((n,cur),v,u,m)) hM Xj (⟨⟨_,_,_,_,rfl,⟨C,K,_,_,rfl,gC,gK⟩,rfl,rfl,rfl⟩,a8,e7,hv,hu,(by have:=of_decide_eq_true b3;show m<5;omega)⟩);have c9:=hA.ext E7;have b7:=E7.old c8;have b8:=E7.old gC;have b9:=E7.old gK;have c6:=E7.old gG;have d7:w1=i64 (aK cur (aU n .out v u m)):=F9;subst d7;have b2:=X0.trans E7;obtain⟨d5,d2,a0,a4,c7,a1,a6⟩:=bG e5 ⟨[i64 (aK cur (aU n .out v u m))],3,1,0,true⟩;have f0:=kN a0 b2;have a3:=dL b7 a0;have b4:=dL b8 a0;have b6:=dL b9 a0;have b5:=dL c6 a0;have d0:=c9.new a0 a1;have d8:=a1.old b7;have d9:=a1.old b8;have e0:=a1.old b9;have e1:=a1.old c6;have d3:=b2.trans a1;obtain⟨b0,a2,b1,q34,d4,a7,d1,e9,e8⟩:=fJ (P:=prog) (sT:=22) (xT:=22) (y:=8) (c:=2) d0 d3 a6 (by intro x hx;simp only [List.mem_cons,List.not_mem_nil,or_false] at hx;rcases hx with rfl|rfl|rfl|rfl|rfl<;>first|exact aB.lt_of_get c7|exact aB.lt_of_get d8|exact aB.lt_of_get d9|exact aB.lt_of_get e0|exact aB.lt_of_get e1) (by kernel_rfl) (by kernel_rfl) (by kernel_rfl) (by kernel_rfl) (by decide) (by decide) rfl a9 c7 (o:=0) (new:=[i64 (aK cur (aU n .out v u m))]) rfl rfl rfl;obtain⟨T1,h1,h2⟩:=eG 60 [aI 2,aL 16 (pt C 0),bL 24 (i64 (aK cur (aU n .out v u m))) M3,aI 31,bL 37 (aC d5 0 1 2) d2,.at 39 ((bif b0 then 1 else 2),.val a2,b1)] (fun B=>jL (fH 63 Q63 (eZ _))) (hk (bT b3) (hk (lO 6 Pz c8 rfl) (hk (qc 63 e6 p4 l5) (hk (bT (x:=!((aK cur (aU n .out v u m))==(-1:Int))) (by rw[d6];rfl)) (hk (qJ (fun x=>aC x 0 1 2) (bE prog 22 1 [(0,(i64 (aK cur (aU n .out v u m))))]) a0 a4 (by kernel_rfl)) (hk (iD q34 (by cases b0<;>simp)) hn)))))) (hx:=by cases b0<;>kernel_rfl);exact⟨T1,b1,a2,h1,h2,d4,a7,d1.less (by intro x hx;simp only [List.mem_cons,List.not_mem_nil,or_false] at hx⊢;omega)⟩
theorem riOx(bB G n cg v u m:Nat)(S:Value){M:aB}(a0:(decide ((m:Int)<(5:Int)))=false):∃T1,Rd prog [] (q62.loopAt 2) Tryz.f62.ntmps (fr [(0,(pt bB 0)),(1,(.func (.func 63) ⟨[]⟩ ⟨[]⟩)),(2,(i64 (v:Int))),(7,S),(8,(i64 (u:Int))),(15,(aC G 0 n cg)),(16,(i64 (n:Int))),(17,(i64 (u:Int))),(23,(i64 (m:Int)))]) M (.exit 2) T1 M/\[0,1,2,7,15,16,17].map T1.get=[some (pt bB 0),some (.func (.func 63) ⟨[]⟩ ⟨[]⟩),some (i64 (v:Int)),some S,some (aC G 0 n cg),some (i64 (n:Int)),some (i64 (u:Int))]:=by exact eG 60 [aZ 2] (aD prog) (hk (bF a0) hn)
theorem Zo{bB C K G n ck cg:Nat}{c0 c1 c2 c3 c4 c5 cl:Value}{cur:List Int}{gone:List Bool}{v u:Nat}{S:Value}{l:List Int}{M0 M:aB}(hM:aA M)(X0:Ext M0 M)(a0:M0.get bB=some ⟨[c0,c1,c2,c3,c4,c5,pt C 0,aC G 0 n cg],56,8,0,true⟩)(a4:M0.get C=some ⟨[i64 n,aC K 0 cur.length ck,cl],79,3,0,true⟩)(a6:M0.get K=some ⟨cur.map i64,3,1,0,true⟩)(a5:M0.get G=some ⟨gone.map Value.bool,4,1,0,true⟩)(a1:n<=60)(a7:cur.length=n*n*5)(hv:v<n)(a8:gone.length=n)(hu:u<n)(hA:cM 3 1 M0 [bB,C,K,G] l.length (l.map i64) S M)(hl30:l.length<1000000):
  ∃S' M',bI prog [] (q62.loopAt 2) Tryz.f62.ntmps (fr [(0,pt bB 0),(1,(.func (.func 63) ⟨[]⟩ ⟨[]⟩)),(2,i64 v),(7,S),(8,i64 u),(15,aC G 0 n cg),(16,i64 n),(17,i64 u),(23,i64 ((0:Nat):Int))]) M (.exit 2) (fr [(0,pt bB 0),(1,(.func (.func 63) ⟨[]⟩ ⟨[]⟩)),(2,i64 v),(7,S'),(15,aC G 0 n cg),(16,i64 n),(17,i64 u)]) M'/\Ext M0 M'/\aA M'/\cM 3 1 M0 [bB,C,K,G] (l++gX n cur .out v u 5).length ((l++gX n cur .out v u 5).map i64) S' M':=by
 obtain⟨S',M',h1,h2,h3,h4⟩:=bI.for (P:=prog) (GL:=[]) (b:=q62.loopAt 2) (nt:=Tryz.f62.ntmps) (id:=2) (σ:=Value) (n:=5) (Inv:=fun i S M1=>Ext M0 M1/\aA M1/\cM 3 1 M0 [bB,C,K,G] (l++gX n cur .out v u i).length ((l++gX n cur .out v u i).map i64) S M1)
  (F:=fun i S=>[(0,pt bB 0),(1,(.func (.func 63) ⟨[]⟩ ⟨[]⟩)),(2,i64 v),(7,S),(8,i64 u),(15,aC G 0 n cg),(16,i64 n),(17,i64 u),(23,i64 ((i:Nat):Int))])
  (O:=fun S=>[(0,pt bB 0),(1,(.func (.func 63) ⟨[]⟩ ⟨[]⟩)),(2,i64 v),(7,S),(15,aC G 0 n cg),(16,i64 n),(17,i64 u)])
  (by
   rintro i S M1 hi ⟨X1,a3,a2⟩;have hln:=xZ n cur .out v u i;have a9:(l++gX n cur .out v u i).length<1073741824:=by rw[List.length_append];omega
   cases hq:(aK cur (aU n .out v u i))==(-1:Int) with
   |true=>
    obtain⟨T1,M2,h1,h2,h3,h4,h5⟩:=riOn bB C K G n ck cg c0 c1 c2 c3 c4 c5 cl cur gone v u i S (l++gX n cur .out v u i) a3 X1 a0 a4 a6 a5 a1 a7 hv a8 hu a2 a9 (xAb (by omega)) hq
    rw[aM (by omega)] at h2
    refine⟨S,T1,M2,h1,h2,h3,h4,?_⟩
    rw[show gX n cur .out v u (i+1)=gX n cur .out v u i by rw[gX,hq];simp]
    exact h5
   |false=>
    obtain⟨T1,M2,S2,h1,h2,h3,h4,h5⟩:=riOa bB C K G n ck cg c0 c1 c2 c3 c4 c5 cl cur gone v u i S (l++gX n cur .out v u i) a3 X1 a0 a4 a6 a5 a1 a7 hv a8 hu a2 a9 (xAb (by omega)) hq
    rw[aM (by omega)] at h2
    refine⟨S2,T1,M2,h1,h2,h3,h4,?_⟩
    rw[show l++gX n cur .out v u (i+1)=(l++gX n cur .out v u i)++ [aK cur (aU n .out v u i)] by rw[gX,hq];simp,List.length_append (bs:=[_]),List.map_append]
    exact h5)
  (by
   rintro S M1 ⟨X1,a3,a2⟩;exact riOx bB G n cg v u 5 S (M:=M1) (xAa (by omega)))
  5 0 (by omega) (s:=S) (M:=M) ⟨X0,hM,by simpa [gX] using hA⟩
 exact⟨S',M',h1,h2,h3,h4⟩
theorem roOg(bB C K G n ck cg:Nat)(c0 c1 c2 c3 c4 c5 cl:Value)(cur:List Int)(gone:List Bool)(v u:Nat)(S:Value)(l:List Int)(gq:Bool){M:aB}{M0:aB}(X0:Ext M0 M)(gbB0:M0.get bB=some ⟨[c0,c1,c2,c3,c4,c5,pt C 0,aC G 0 n cg],56,8,0,true⟩)(gC0:M0.get C=some ⟨[i64 n,aC K 0 cur.length ck,cl],79,3,0,true⟩)(gK0:M0.get K=some ⟨cur.map i64,3,1,0,true⟩)(a2:M0.get G=some ⟨gone.map Value.bool,4,1,0,true⟩)(hc60:n<=60)(hcl:cur.length=n*n*5)(hv:v<n)(hgl:gone.length=n)(hA:cM 3 1 M0 [bB,C,K,G] l.length (l.map i64) S M)(hl30:l.length<1000000)(a0:(decide ((u:Int)<(n:Int)))=true)(a1:(gq)=true)(a3:(gone.map Value.bool)[0+((u:Int):Int).toNat*1]?=some (.bool gq)):∃T1,Rd prog [] (q62.loopAt 0) Tryz.f62.ntmps (fr [(0,(pt bB 0)),(1,(.func (.func 63) ⟨[]⟩ ⟨[]⟩)),(2,(i64 (v:Int))),(7,S),(15,(aC G 0 n cg)),(16,(i64 (n:Int))),(17,(i64 (u:Int)))]) M .normal T1 M/\[0,1,2,7,15,16,17].map T1.get=[some (pt bB 0),some (.func (.func 63) ⟨[]⟩ ⟨[]⟩),some (i64 (v:Int)),some S,some (aC G 0 n cg),some (i64 (n:Int)),some (i64 (IntKind.wrap .i64 ((u:Int)+(1:Int))))]:=by have gG:=X0.old a2;exact eG 60 [aI 2,aI 6,aL 8 (.bool gq),aI 15] (aD prog) (hk (bT a0) (hk (qI (u:Int) n (by omega) (by simp at a0;omega)) (hk (lD (aY (a:=⟨G,0+((u:Int):Int).toNat*1,none⟩) Py gG a3)) (hk (bT a1) hn))))
theorem roOs(bB C K G n ck cg:Nat)(c0 c1 c2 c3 c4 c5 cl:Value)(cur:List Int)(gone:List Bool)(v u:Nat)(S:Value)(l:List Int)(gq:Bool){M M0:aB}(hM:aA M)(X0:Ext M0 M)(a1:M0.get bB=some ⟨[c0,c1,c2,c3,c4,c5,pt C 0,aC G 0 n cg],56,8,0,true⟩)(a6:M0.get C=some ⟨[i64 n,aC K 0 cur.length ck,cl],79,3,0,true⟩)(a7:M0.get K=some ⟨cur.map i64,3,1,0,true⟩)(a4:M0.get G=some ⟨gone.map Value.bool,4,1,0,true⟩)(a2:n<=60)(b1:cur.length=n*n*5)(hv:v<n)(b2:gone.length=n)(hA:cM 3 1 M0 [bB,C,K,G] l.length (l.map i64) S M)(a3:l.length<1000000)(a0:(decide ((u:Int)<(n:Int)))=true)(a5:(gq)=false)(b0:(gone.map Value.bool)[0+((u:Int):Int).toNat*1]?=some (.bool gq)):∃T1 M' S1,Rd prog [] (q62.loopAt 0) Tryz.f62.ntmps (fr [(0,(pt bB 0)),(1,(.func (.func 63) ⟨[]⟩ ⟨[]⟩)),(2,(i64 (v:Int))),(7,S),(15,(aC G 0 n cg)),(16,(i64 (n:Int))),(17,(i64 (u:Int)))]) M .normal T1 M'/\[0,1,2,7,15,16,17].map T1.get=[some (pt bB 0),some (.func (.func 63) ⟨[]⟩ ⟨[]⟩),some (i64 (v:Int)),some S1,some (aC G 0 n cg),some (i64 (n:Int)),some (i64 (IntKind.wrap .i64 ((u:Int)+(1:Int))))]/\Ext M0 M'/\aA M'/\cM 3 1 M0 [bB,C,K,G] (l++gX n cur .out v u 5).length ((l++gX n cur .out v u 5).map i64) S1 M':=by have gG:=X0.old a4;obtain⟨S1,M2,a8,X4,a9,A6⟩:=Zo hM X0 a1 a6 a7 a4 a2 b1 hv b2 (u:=u) (by simp at a0;omega) hA a3;obtain⟨T1,h1,h2⟩:=eG 60 [aI 2,aI 6,aL 8 (.bool gq),aZ 15,.blk 18 [0,1,2,7,8,15,16,17,23] .normal (fr [(0,(pt bB 0)),(1,(.func (.func 63) ⟨[]⟩ ⟨[]⟩)),(2,(i64 (v:Int))),(7,S1),(15,(aC G 0 n cg)),(16,(i64 (n:Int))),(17,(i64 (u:Int)))]) M2] (fun B=>vA (eZ B) 2 a8) (hk (bT a0) (hk (qI (u:Int) n (by omega) (by simp at a0;omega)) (hk (lD (aY (a:=⟨G,0+((u:Int):Int).toNat*1,none⟩) Py gG b0)) (hk (bF a5) (hk (eA (id:=2) rfl) hn))))) (tb:=[2]) (hB:=fun _ h=>bQ h);exact⟨T1,M2,S1,h1,h2,X4,a9,A6⟩
theorem roOx(bB C K G n ck cg:Nat)(c0 c1 c2 c3 c4 c5 cl:Value)(cur:List Int)(gone:List Bool)(v u:Nat)(S:Value){M:aB}{M0:aB}(X0:Ext M0 M)(gbB0:M0.get bB=some ⟨[c0,c1,c2,c3,c4,c5,pt C 0,aC G 0 n cg],56,8,0,true⟩)(gC0:M0.get C=some ⟨[i64 n,aC K 0 cur.length ck,cl],79,3,0,true⟩)(gK0:M0.get K=some ⟨cur.map i64,3,1,0,true⟩)(gG0:M0.get G=some ⟨gone.map Value.bool,4,1,0,true⟩)(a0:(decide ((u:Int)<(n:Int)))=false):∃T1,Rd prog [] (q62.loopAt 0) Tryz.f62.ntmps (fr [(0,(pt bB 0)),(1,(.func (.func 63) ⟨[]⟩ ⟨[]⟩)),(2,(i64 (v:Int))),(7,S),(15,(aC G 0 n cg)),(16,(i64 (n:Int))),(17,(i64 (u:Int)))]) M (.exit 0) T1 M/\[7].map T1.get=[some S]:=by exact eG 60 [aZ 2] (aD prog) (hk (bF a0) hn)
theorem riIn(bB C K G n ck cg:Nat)(c0 c1 c2 c3 c4 c5 cl:Value)(cur:List Int)(gone:List Bool)(v u m:Nat)(S:Value)(l:List Int){M M0:aB}(hM:aA M)(X0:Ext M0 M)(a0:M0.get bB=some ⟨[c0,c1,c2,c3,c4,c5,pt C 0,aC G 0 n cg],56,8,0,true⟩)(a7:M0.get C=some ⟨[i64 n,aC K 0 cur.length ck,cl],79,3,0,true⟩)(a8:M0.get K=some ⟨cur.map i64,3,1,0,true⟩)(gG0:M0.get G=some ⟨gone.map Value.bool,4,1,0,true⟩)(a1:n<=60)(b1:cur.length=n*n*5)(hv:v<n)(hgl:gone.length=n)(hu:u<n)(hA:cM 3 1 M0 [bB,C,K,G] l.length (l.map i64) S M)(hl30:l.length<1073741824)(a2:(decide ((m:Int)<(5:Int)))=true)(a5:((aK cur (aU n .inn v u m))==(-1:Int))=true):∃T1 M',Rd prog [] (q62.loopAt 2) Tryz.f62.ntmps (fr [(0,(pt bB 0)),(1,(.func (.func 64) ⟨[]⟩ ⟨[]⟩)),(2,(i64 (v:Int))),(7,S),(8,(i64 (u:Int))),(15,(aC G 0 n cg)),(16,(i64 (n:Int))),(17,(i64 (u:Int))),(23,(i64 (m:Int)))]) M .normal T1 M'/\[0,1,2,7,8,15,16,17,23].map T1.get=[some (pt bB 0),some (.func (.func 64) ⟨[]⟩ ⟨[]⟩),some (i64 (v:Int)),some S,some (i64 (u:Int)),some (aC G 0 n cg),some (i64 (n:Int)),some (i64 (u:Int)),some (i64 (IntKind.wrap .i64 ((m:Int)+(1:Int))))]/\Ext M0 M'/\aA M'/\cM 3 1 M0 [bB,C,K,G] l.length (l.map i64) S M':=by have a9:=X0.old a0;have gC:=X0.old a7;have gK:=X0.old a8;obtain⟨w1,N2,M3,p4,l5,e6,E7,b0,F9⟩:=aJ (x:=((n,cur),v,u,m)) hM Xk (⟨⟨_,_,_,_,rfl,⟨C,K,_,_,rfl,gC,gK⟩,rfl,rfl,rfl⟩,a1,b1,hv,hu,(by have:=of_decide_eq_true a2;show m<5;omega)⟩);have a3:=hA.ext E7;have a6:w1=i64 (aK cur (aU n .inn v u m)):=F9;subst a6;have a4:=X0.trans E7;obtain⟨T1,h1,h2⟩:=eG 60 [aI 2,aL 16 (pt C 0),bL 24 (i64 (aK cur (aU n .inn v u m))) M3,aZ 31] (fun B=>jL (fH 64 Q64 (eZ _))) (hk (bT a2) (hk (lO 6 Pz a9 rfl) (hk (qc 64 e6 p4 l5) (hk (bF (x:=!((aK cur (aU n .inn v u m))==(-1:Int))) (by rw[a5];rfl)) hn))));exact⟨T1,M3,h1,h2,a4,b0,a3⟩
theorem riIa(bB C K G n ck cg:Nat)(c0 c1 c2 c3 c4 c5 cl:Value)(cur:List Int)(gone:List Bool)(v u m:Nat)(S:Value)(l:List Int){M M0:aB}(hM:aA M)(X0:Ext M0 M)(a5:M0.get bB=some ⟨[c0,c1,c2,c3,c4,c5,pt C 0,aC G 0 n cg],56,8,0,true⟩)(e2:M0.get C=some ⟨[i64 n,aC K 0 cur.length ck,cl],79,3,0,true⟩)(e4:M0.get K=some ⟨cur.map i64,3,1,0,true⟩)(e3:M0.get G=some ⟨gone.map Value.bool,4,1,0,true⟩)(a8:n<=60)(e7:cur.length=n*n*5)(hv:v<n)(hgl:gone.length=n)(hu:u<n)(hA:cM 3 1 M0 [bB,C,K,G] l.length (l.map i64) S M)(a9:l.length<1073741824)(b3:(decide ((m:Int)<(5:Int)))=true)(d6:((aK cur (aU n .inn v u m))==(-1:Int))=false):∃T1 M' a2,Rd prog [] (q62.loopAt 2) Tryz.f62.ntmps (fr [(0,(pt bB 0)),(1,(.func (.func 64) ⟨[]⟩ ⟨[]⟩)),(2,(i64 (v:Int))),(7,S),(8,(i64 (u:Int))),(15,(aC G 0 n cg)),(16,(i64 (n:Int))),(17,(i64 (u:Int))),(23,(i64 (m:Int)))]) M .normal T1 M'/\[0,1,2,7,8,15,16,17,23].map T1.get=[some (pt bB 0),some (.func (.func 64) ⟨[]⟩ ⟨[]⟩),some (i64 (v:Int)),some a2,some (i64 (u:Int)),some (aC G 0 n cg),some (i64 (n:Int)),some (i64 (u:Int)),some (i64 (IntKind.wrap .i64 ((m:Int)+(1:Int))))]/\Ext M0 M'/\aA M'/\cM 3 1 M0 [bB,C,K,G] (l.length+1) (l.map i64++ [i64 (aK cur (aU n .inn v u m))]) a2 M':=by have c8:=X0.old a5;have gC:=X0.old e2;have gK:=X0.old e4;have gG:=X0.old e3;obtain⟨w1,N2,M3,p4,l5,e6,E7,e5,F9⟩:=aJ (x:=((n,cur),v,u,m)) hM Xk (⟨⟨_,_,_,_,rfl,⟨C,K,_,_,rfl,gC,gK⟩,rfl,rfl,rfl⟩,a8,e7,hv,hu,(by have:=of_decide_eq_true b3;show m<5;omega)⟩);have c9:=hA.ext E7;have b7:=E7.old c8;have b8:=E7.old gC;have b9:=E7.old gK;have c6:=E7.old gG;have d7:w1=i64 (aK cur (aU n .inn v u m)):=F9;subst d7;have b2:=X0.trans E7;obtain⟨d5,d2,a0,a4,c7,a1,a6⟩:=bG e5 ⟨[i64 (aK cur (aU n .inn v u m))],3,1,0,true⟩;have f0:=kN a0 b2;have a3:=dL b7 a0;have b4:=dL b8 a0;have b6:=dL b9 a0;have b5:=dL c6 a0;have d0:=c9.new a0 a1;have d8:=a1.old b7;have d9:=a1.old b8;have e0:=a1.old b9;have e1:=a1.old c6;have d3:=b2.trans a1;obtain⟨b0,a2,b1,q34,d4,a7,d1,e9,e8⟩:=fJ (P:=prog) (sT:=22) (xT:=22) (y:=8) (c:=2) d0 d3 a6 (by intro x hx;simp only [List.mem_cons,List.not_mem_nil,or_false] at hx;rcases hx with rfl|rfl|rfl|rfl|rfl<;>first|exact aB.lt_of_get c7|exact aB.lt_of_get d8|exact aB.lt_of_get d9|exact aB.lt_of_get e0|exact aB.lt_of_get e1) (by kernel_rfl) (by kernel_rfl) (by kernel_rfl) (by kernel_rfl) (by decide) (by decide) rfl a9 c7 (o:=0) (new:=[i64 (aK cur (aU n .inn v u m))]) rfl rfl rfl;obtain⟨T1,h1,h2⟩:=eG 60 [aI 2,aL 16 (pt C 0),bL 24 (i64 (aK cur (aU n .inn v u m))) M3,aI 31,bL 37 (aC d5 0 1 2) d2,.at 39 ((bif b0 then 1 else 2),.val a2,b1)] (fun B=>jL (fH 64 Q64 (eZ _))) (hk (bT b3) (hk (lO 6 Pz c8 rfl) (hk (qc 64 e6 p4 l5) (hk (bT (x:=!((aK cur (aU n .inn v u m))==(-1:Int))) (by rw[d6];rfl)) (hk (qJ (fun x=>aC x 0 1 2) (bE prog 22 1 [(0,(i64 (aK cur (aU n .inn v u m))))]) a0 a4 (by kernel_rfl)) (hk (iD q34 (by cases b0<;>simp)) hn)))))) (hx:=by cases b0<;>kernel_rfl);exact⟨T1,b1,a2,h1,h2,d4,a7,d1.less (by intro x hx;simp only [List.mem_cons,List.not_mem_nil,or_false] at hx⊢;omega)⟩
theorem riIx(bB G n cg v u m:Nat)(S:Value){M:aB}(a0:(decide ((m:Int)<(5:Int)))=false):∃T1,Rd prog [] (q62.loopAt 2) Tryz.f62.ntmps (fr [(0,(pt bB 0)),(1,(.func (.func 64) ⟨[]⟩ ⟨[]⟩)),(2,(i64 (v:Int))),(7,S),(8,(i64 (u:Int))),(15,(aC G 0 n cg)),(16,(i64 (n:Int))),(17,(i64 (u:Int))),(23,(i64 (m:Int)))]) M (.exit 2) T1 M/\[0,1,2,7,15,16,17].map T1.get=[some (pt bB 0),some (.func (.func 64) ⟨[]⟩ ⟨[]⟩),some (i64 (v:Int)),some S,some (aC G 0 n cg),some (i64 (n:Int)),some (i64 (u:Int))]:=by exact eG 60 [aZ 2] (aD prog) (hk (bF a0) hn)
theorem Zn{bB C K G n ck cg:Nat}{c0 c1 c2 c3 c4 c5 cl:Value}{cur:List Int}{gone:List Bool}{v u:Nat}{S:Value}{l:List Int}{M0 M:aB}(hM:aA M)(X0:Ext M0 M)(a0:M0.get bB=some ⟨[c0,c1,c2,c3,c4,c5,pt C 0,aC G 0 n cg],56,8,0,true⟩)(a4:M0.get C=some ⟨[i64 n,aC K 0 cur.length ck,cl],79,3,0,true⟩)(a6:M0.get K=some ⟨cur.map i64,3,1,0,true⟩)(a5:M0.get G=some ⟨gone.map Value.bool,4,1,0,true⟩)(a1:n<=60)(a7:cur.length=n*n*5)(hv:v<n)(a8:gone.length=n)(hu:u<n)(hA:cM 3 1 M0 [bB,C,K,G] l.length (l.map i64) S M)(hl30:l.length<1000000):
  ∃S' M',bI prog [] (q62.loopAt 2) Tryz.f62.ntmps (fr [(0,pt bB 0),(1,(.func (.func 64) ⟨[]⟩ ⟨[]⟩)),(2,i64 v),(7,S),(8,i64 u),(15,aC G 0 n cg),(16,i64 n),(17,i64 u),(23,i64 ((0:Nat):Int))]) M (.exit 2) (fr [(0,pt bB 0),(1,(.func (.func 64) ⟨[]⟩ ⟨[]⟩)),(2,i64 v),(7,S'),(15,aC G 0 n cg),(16,i64 n),(17,i64 u)]) M'/\Ext M0 M'/\aA M'/\cM 3 1 M0 [bB,C,K,G] (l++gX n cur .inn v u 5).length ((l++gX n cur .inn v u 5).map i64) S' M':=by
 obtain⟨S',M',h1,h2,h3,h4⟩:=bI.for (P:=prog) (GL:=[]) (b:=q62.loopAt 2) (nt:=Tryz.f62.ntmps) (id:=2) (σ:=Value) (n:=5) (Inv:=fun i S M1=>Ext M0 M1/\aA M1/\cM 3 1 M0 [bB,C,K,G] (l++gX n cur .inn v u i).length ((l++gX n cur .inn v u i).map i64) S M1)
  (F:=fun i S=>[(0,pt bB 0),(1,(.func (.func 64) ⟨[]⟩ ⟨[]⟩)),(2,i64 v),(7,S),(8,i64 u),(15,aC G 0 n cg),(16,i64 n),(17,i64 u),(23,i64 ((i:Nat):Int))])
  (O:=fun S=>[(0,pt bB 0),(1,(.func (.func 64) ⟨[]⟩ ⟨[]⟩)),(2,i64 v),(7,S),(15,aC G 0 n cg),(16,i64 n),(17,i64 u)])
  (by
   rintro i S M1 hi ⟨X1,a3,a2⟩;have hln:=xZ n cur .inn v u i;have a9:(l++gX n cur .inn v u i).length<1073741824:=by rw[List.length_append];omega
   cases hq:(aK cur (aU n .inn v u i))==(-1:Int) with
   |true=>
    obtain⟨T1,M2,h1,h2,h3,h4,h5⟩:=riIn bB C K G n ck cg c0 c1 c2 c3 c4 c5 cl cur gone v u i S (l++gX n cur .inn v u i) a3 X1 a0 a4 a6 a5 a1 a7 hv a8 hu a2 a9 (xAb (by omega)) hq
    rw[aM (by omega)] at h2
    refine⟨S,T1,M2,h1,h2,h3,h4,?_⟩
    rw[show gX n cur .inn v u (i+1)=gX n cur .inn v u i by rw[gX,hq];simp]
    exact h5
   |false=>
    obtain⟨T1,M2,S2,h1,h2,h3,h4,h5⟩:=riIa bB C K G n ck cg c0 c1 c2 c3 c4 c5 cl cur gone v u i S (l++gX n cur .inn v u i) a3 X1 a0 a4 a6 a5 a1 a7 hv a8 hu a2 a9 (xAb (by omega)) hq
    rw[aM (by omega)] at h2
    refine⟨S2,T1,M2,h1,h2,h3,h4,?_⟩
    rw[show l++gX n cur .inn v u (i+1)=(l++gX n cur .inn v u i)++ [aK cur (aU n .inn v u i)] by rw[gX,hq];simp,List.length_append (bs:=[_]),List.map_append]
    exact h5)
  (by
   rintro S M1 ⟨X1,a3,a2⟩;exact riIx bB G n cg v u 5 S (M:=M1) (xAa (by omega)))
  5 0 (by omega) (s:=S) (M:=M) ⟨X0,hM,by simpa [gX] using hA⟩
 exact⟨S',M',h1,h2,h3,h4⟩
theorem roIg(bB C K G n ck cg:Nat)(c0 c1 c2 c3 c4 c5 cl:Value)(cur:List Int)(gone:List Bool)(v u:Nat)(S:Value)(l:List Int)(gq:Bool){M:aB}{M0:aB}(X0:Ext M0 M)(gbB0:M0.get bB=some ⟨[c0,c1,c2,c3,c4,c5,pt C 0,aC G 0 n cg],56,8,0,true⟩)(gC0:M0.get C=some ⟨[i64 n,aC K 0 cur.length ck,cl],79,3,0,true⟩)(gK0:M0.get K=some ⟨cur.map i64,3,1,0,true⟩)(a2:M0.get G=some ⟨gone.map Value.bool,4,1,0,true⟩)(hc60:n<=60)(hcl:cur.length=n*n*5)(hv:v<n)(hgl:gone.length=n)(hA:cM 3 1 M0 [bB,C,K,G] l.length (l.map i64) S M)(hl30:l.length<1000000)(a0:(decide ((u:Int)<(n:Int)))=true)(a1:(gq)=true)(a3:(gone.map Value.bool)[0+((u:Int):Int).toNat*1]?=some (.bool gq)):∃T1,Rd prog [] (q62.loopAt 0) Tryz.f62.ntmps (fr [(0,(pt bB 0)),(1,(.func (.func 64) ⟨[]⟩ ⟨[]⟩)),(2,(i64 (v:Int))),(7,S),(15,(aC G 0 n cg)),(16,(i64 (n:Int))),(17,(i64 (u:Int)))]) M .normal T1 M/\[0,1,2,7,15,16,17].map T1.get=[some (pt bB 0),some (.func (.func 64) ⟨[]⟩ ⟨[]⟩),some (i64 (v:Int)),some S,some (aC G 0 n cg),some (i64 (n:Int)),some (i64 (IntKind.wrap .i64 ((u:Int)+(1:Int))))]:=by have gG:=X0.old a2;exact eG 60 [aI 2,aI 6,aL 8 (.bool gq),aI 15] (aD prog) (hk (bT a0) (hk (qI (u:Int) n (by omega) (by simp at a0;omega)) (hk (lD (aY (a:=⟨G,0+((u:Int):Int).toNat*1,none⟩) Py gG a3)) (hk (bT a1) hn))))
theorem roIs(bB C K G n ck cg:Nat)(c0 c1 c2 c3 c4 c5 cl:Value)(cur:List Int)(gone:List Bool)(v u:Nat)(S:Value)(l:List Int)(gq:Bool){M M0:aB}(hM:aA M)(X0:Ext M0 M)(a1:M0.get bB=some ⟨[c0,c1,c2,c3,c4,c5,pt C 0,aC G 0 n cg],56,8,0,true⟩)(a6:M0.get C=some ⟨[i64 n,aC K 0 cur.length ck,cl],79,3,0,true⟩)(a7:M0.get K=some ⟨cur.map i64,3,1,0,true⟩)(a4:M0.get G=some ⟨gone.map Value.bool,4,1,0,true⟩)(a2:n<=60)(b1:cur.length=n*n*5)(hv:v<n)(b2:gone.length=n)(hA:cM 3 1 M0 [bB,C,K,G] l.length (l.map i64) S M)(a3:l.length<1000000)(a0:(decide ((u:Int)<(n:Int)))=true)(a5:(gq)=false)(b0:(gone.map Value.bool)[0+((u:Int):Int).toNat*1]?=some (.bool gq)):∃T1 M' S1,Rd prog [] (q62.loopAt 0) Tryz.f62.ntmps (fr [(0,(pt bB 0)),(1,(.func (.func 64) ⟨[]⟩ ⟨[]⟩)),(2,(i64 (v:Int))),(7,S),(15,(aC G 0 n cg)),(16,(i64 (n:Int))),(17,(i64 (u:Int)))]) M .normal T1 M'/\[0,1,2,7,15,16,17].map T1.get=[some (pt bB 0),some (.func (.func 64) ⟨[]⟩ ⟨[]⟩),some (i64 (v:Int)),some S1,some (aC G 0 n cg),some (i64 (n:Int)),some (i64 (IntKind.wrap .i64 ((u:Int)+(1:Int))))]/\Ext M0 M'/\aA M'/\cM 3 1 M0 [bB,C,K,G] (l++gX n cur .inn v u 5).length ((l++gX n cur .inn v u 5).map i64) S1 M':=by have gG:=X0.old a4;obtain⟨S1,M2,a8,X4,a9,A6⟩:=Zn hM X0 a1 a6 a7 a4 a2 b1 hv b2 (u:=u) (by simp at a0;omega) hA a3;obtain⟨T1,h1,h2⟩:=eG 60 [aI 2,aI 6,aL 8 (.bool gq),aZ 15,.blk 18 [0,1,2,7,8,15,16,17,23] .normal (fr [(0,(pt bB 0)),(1,(.func (.func 64) ⟨[]⟩ ⟨[]⟩)),(2,(i64 (v:Int))),(7,S1),(15,(aC G 0 n cg)),(16,(i64 (n:Int))),(17,(i64 (u:Int)))]) M2] (fun B=>vA (eZ B) 2 a8) (hk (bT a0) (hk (qI (u:Int) n (by omega) (by simp at a0;omega)) (hk (lD (aY (a:=⟨G,0+((u:Int):Int).toNat*1,none⟩) Py gG b0)) (hk (bF a5) (hk (eA (id:=2) rfl) hn))))) (tb:=[2]) (hB:=fun _ h=>bQ h);exact⟨T1,M2,S1,h1,h2,X4,a9,A6⟩
theorem roIx(bB C K G n ck cg:Nat)(c0 c1 c2 c3 c4 c5 cl:Value)(cur:List Int)(gone:List Bool)(v u:Nat)(S:Value){M:aB}{M0:aB}(X0:Ext M0 M)(gbB0:M0.get bB=some ⟨[c0,c1,c2,c3,c4,c5,pt C 0,aC G 0 n cg],56,8,0,true⟩)(gC0:M0.get C=some ⟨[i64 n,aC K 0 cur.length ck,cl],79,3,0,true⟩)(gK0:M0.get K=some ⟨cur.map i64,3,1,0,true⟩)(gG0:M0.get G=some ⟨gone.map Value.bool,4,1,0,true⟩)(a0:(decide ((u:Int)<(n:Int)))=false):∃T1,Rd prog [] (q62.loopAt 0) Tryz.f62.ntmps (fr [(0,(pt bB 0)),(1,(.func (.func 64) ⟨[]⟩ ⟨[]⟩)),(2,(i64 (v:Int))),(7,S),(15,(aC G 0 n cg)),(16,(i64 (n:Int))),(17,(i64 (u:Int)))]) M (.exit 0) T1 M/\[7].map T1.get=[some S]:=by exact eG 60 [aZ 2] (aD prog) (hk (bF a0) hn)
open Tryz
theorem Cn:(prog.underlying 54).map eC=some false:=by kernel_rfl
theorem xA{M M':aB}{bad:List Nat}{l:List Int}{S:Value}(h:cM 3 1 M bad l.length (l.map i64) S M')(hl:l.length<=9223372036854775807):aH l S (hid M.next M'):=by
 rcases h with⟨rfl,h0,_⟩|⟨b,rfl,_,_,h3,h5,h6⟩
 ·rw[List.eq_nil_of_length_eq_zero h0];exact aG.nil none
 ·exact aG.of_blk' (gJ h3 h6) rfl (vG l).symm (fun _ _=>rfl) hl
theorem Zq{bB C K G n ck cg:Nat}{c0 c1 c2 c3 c4 c5 cl:Value}{cur:List Int}{gone:List Bool}{v:Nat}{M0 M:aB}(hM:aA M)(X0:Ext M0 M)(a0:M0.get bB=some ⟨[c0,c1,c2,c3,c4,c5,pt C 0,aC G 0 n cg],56,8,0,true⟩)(a4:M0.get C=some ⟨[i64 n,aC K 0 cur.length ck,cl],79,3,0,true⟩)(a6:M0.get K=some ⟨cur.map i64,3,1,0,true⟩)(a5:M0.get G=some ⟨gone.map Value.bool,4,1,0,true⟩)(a1:n<=60)(a8:cur.length=n*n*5)(hv:v<n)(a9:gone.length=n):
  ∃S' M',bI prog [] (q62.loopAt 0) Tryz.f62.ntmps (fr [(0,pt bB 0),(1,(.func (.func 63) ⟨[]⟩ ⟨[]⟩)),(2,i64 v),(7,dP),(15,aC G 0 n cg),(16,i64 n),(17,i64 ((0:Nat):Int))]) M (.exit 0) (fr [(7,S')]) M'/\Ext M0 M'/\aA M'/\cM 3 1 M0 [bB,C,K,G] (dF n cur gone .out v n).length ((dF n cur gone .out v n).map i64) S' M':=by
 obtain⟨S',M',h1,h2,h3,h4⟩:=bI.for (P:=prog) (GL:=[]) (b:=q62.loopAt 0) (nt:=Tryz.f62.ntmps) (id:=0) (σ:=Value) (n:=n) (Inv:=fun i S M1=>Ext M0 M1/\aA M1/\cM 3 1 M0 [bB,C,K,G] (dF n cur gone .out v i).length ((dF n cur gone .out v i).map i64) S M1)
  (F:=fun i S=>[(0,pt bB 0),(1,(.func (.func 63) ⟨[]⟩ ⟨[]⟩)),(2,i64 v),(7,S),(15,aC G 0 n cg),(16,i64 n),(17,i64 ((i:Nat):Int))])
  (O:=fun S=>[(7,S)])
  (by
   rintro i S M1 hi ⟨X1,a7,a2⟩;have hln:=jO n cur gone .out v i;have b0:gone[i]?=some (bV gone i):=by unfold bV;rw[xAe (by omega)];rfl
   have a3:(gone.map Value.bool)[0+((i:Int):Int).toNat*1]?=some (.bool (bV gone i)):=by simp [b0]
   cases hq:bV gone i with
   |true=>
    rw[hq] at a3
    obtain⟨T1,h1,h2⟩:=roOg bB C K G n ck cg c0 c1 c2 c3 c4 c5 cl cur gone v i S (dF n cur gone .out v i) true (M:=M1) X1 a0 a4 a6 a5 a1 a8 hv a9 a2 (by omega) (xAb (by omega)) rfl a3
    rw[aM (by omega)] at h2
    refine⟨S,T1,M1,h1,h2,X1,a7,?_⟩
    rw[show dF n cur gone .out v (i+1)=dF n cur gone .out v i by rw[dF,hq];simp]
    exact a2
   |false=>
    rw[hq] at a3
    obtain⟨T1,M2,S2,h1,h2,h3,h4,h5⟩:=roOs bB C K G n ck cg c0 c1 c2 c3 c4 c5 cl cur gone v i S (dF n cur gone .out v i) false a7 X1 a0 a4 a6 a5 a1 a8 hv a9 a2 (by omega) (xAb (by omega)) rfl a3
    rw[aM (by omega)] at h2
    refine⟨S2,T1,M2,h1,h2,h3,h4,?_⟩
    rw[show dF n cur gone .out v (i+1)=dF n cur gone .out v i++gX n cur .out v i 5 by rw[dF,hq];simp]
    exact h5)
  (by
   rintro S M1 ⟨X1,a7,a2⟩;exact roOx bB C K G n ck cg c0 c1 c2 c3 c4 c5 cl cur gone v n S (M:=M1) X1 a0 a4 a6 a5 (xAa (by omega)))
  n 0 (by omega) (s:=dP) (M:=M) ⟨X0,hM,.inl ⟨rfl,rfl,rfl⟩⟩
 exact⟨S',M',h1,h2,h3,h4⟩
theorem rK62:Tryz.f62.results= #[.tmp 6]:=by kernel_rfl
theorem hw55O(bB C K G n ck cg:Nat)(c0 c1 c2 c3 c4 c5 cl:Value)(cur:List Int)(gone:List Bool)(v:Nat){M:aB}(hM:aA M)(a0:M.get bB=some ⟨[c0,c1,c2,c3,c4,c5,pt C 0,aC G 0 n cg],56,8,0,true⟩)(a2:M.get C=some ⟨[i64 n,aC K 0 cur.length ck,cl],79,3,0,true⟩)(a4:M.get K=some ⟨cur.map i64,3,1,0,true⟩)(a3:M.get G=some ⟨gone.map Value.bool,4,1,0,true⟩)(a1:n<=60)(a8:cur.length=n*n*5)(hv:v<n)(a9:gone.length=n):∃v_ M',Ev prog [] 62 [pt bB 0,.func (.func 63) ⟨[]⟩ ⟨[]⟩,i64 v] M v_ M'/\Ext M M'/\aA M'/\eR aH (bX n cur gone .out v) M.next v_ M':=by have a5:=a0;obtain⟨S1,M2,a6,X4,a7,A6⟩:=Zq hM (Ext.refl M) a0 a2 a4 a3 a1 a8 hv a9;exact⟨S1,M2,kA 60 [aL 11 (aC G 0 n cg),.blk 16 [0,1,2,7,15,16,17] .normal (fr [(7,S1)]) M2] Tryz.func62 Uh rK62 (fun B=>vA (eZ B) 0 a6) (hk (lO 7 Cn a5 rfl) (hk (eA (id:=0) rfl) hn)) (tb:=[0]) (hB:=fun _ h=>bQ h),X4,a7,xA A6 (by have h9:(bX n cur gone .out v).length<=5*n:=jO n cur gone .out v n;omega)⟩
theorem Zp{bB C K G n ck cg:Nat}{c0 c1 c2 c3 c4 c5 cl:Value}{cur:List Int}{gone:List Bool}{v:Nat}{M0 M:aB}(hM:aA M)(X0:Ext M0 M)(a0:M0.get bB=some ⟨[c0,c1,c2,c3,c4,c5,pt C 0,aC G 0 n cg],56,8,0,true⟩)(a4:M0.get C=some ⟨[i64 n,aC K 0 cur.length ck,cl],79,3,0,true⟩)(a6:M0.get K=some ⟨cur.map i64,3,1,0,true⟩)(a5:M0.get G=some ⟨gone.map Value.bool,4,1,0,true⟩)(a1:n<=60)(a8:cur.length=n*n*5)(hv:v<n)(a9:gone.length=n):
  ∃S' M',bI prog [] (q62.loopAt 0) Tryz.f62.ntmps (fr [(0,pt bB 0),(1,(.func (.func 64) ⟨[]⟩ ⟨[]⟩)),(2,i64 v),(7,dP),(15,aC G 0 n cg),(16,i64 n),(17,i64 ((0:Nat):Int))]) M (.exit 0) (fr [(7,S')]) M'/\Ext M0 M'/\aA M'/\cM 3 1 M0 [bB,C,K,G] (dF n cur gone .inn v n).length ((dF n cur gone .inn v n).map i64) S' M':=by
 obtain⟨S',M',h1,h2,h3,h4⟩:=bI.for (P:=prog) (GL:=[]) (b:=q62.loopAt 0) (nt:=Tryz.f62.ntmps) (id:=0) (σ:=Value) (n:=n) (Inv:=fun i S M1=>Ext M0 M1/\aA M1/\cM 3 1 M0 [bB,C,K,G] (dF n cur gone .inn v i).length ((dF n cur gone .inn v i).map i64) S M1)
  (F:=fun i S=>[(0,pt bB 0),(1,(.func (.func 64) ⟨[]⟩ ⟨[]⟩)),(2,i64 v),(7,S),(15,aC G 0 n cg),(16,i64 n),(17,i64 ((i:Nat):Int))])
  (O:=fun S=>[(7,S)])
  (by
   rintro i S M1 hi ⟨X1,a7,a2⟩;have hln:=jO n cur gone .inn v i;have b0:gone[i]?=some (bV gone i):=by unfold bV;rw[xAe (by omega)];rfl
   have a3:(gone.map Value.bool)[0+((i:Int):Int).toNat*1]?=some (.bool (bV gone i)):=by simp [b0]
   cases hq:bV gone i with
   |true=>
    rw[hq] at a3
    obtain⟨T1,h1,h2⟩:=roIg bB C K G n ck cg c0 c1 c2 c3 c4 c5 cl cur gone v i S (dF n cur gone .inn v i) true (M:=M1) X1 a0 a4 a6 a5 a1 a8 hv a9 a2 (by omega) (xAb (by omega)) rfl a3
    rw[aM (by omega)] at h2
    refine⟨S,T1,M1,h1,h2,X1,a7,?_⟩
    rw[show dF n cur gone .inn v (i+1)=dF n cur gone .inn v i by rw[dF,hq];simp]
    exact a2
   |false=>
    rw[hq] at a3
    obtain⟨T1,M2,S2,h1,h2,h3,h4,h5⟩:=roIs bB C K G n ck cg c0 c1 c2 c3 c4 c5 cl cur gone v i S (dF n cur gone .inn v i) false a7 X1 a0 a4 a6 a5 a1 a8 hv a9 a2 (by omega) (xAb (by omega)) rfl a3
    rw[aM (by omega)] at h2
    refine⟨S2,T1,M2,h1,h2,h3,h4,?_⟩
    rw[show dF n cur gone .inn v (i+1)=dF n cur gone .inn v i++gX n cur .inn v i 5 by rw[dF,hq];simp]
    exact h5)
  (by
   rintro S M1 ⟨X1,a7,a2⟩;exact roIx bB C K G n ck cg c0 c1 c2 c3 c4 c5 cl cur gone v n S (M:=M1) X1 a0 a4 a6 a5 (xAa (by omega)))
  n 0 (by omega) (s:=dP) (M:=M) ⟨X0,hM,.inl ⟨rfl,rfl,rfl⟩⟩
 exact⟨S',M',h1,h2,h3,h4⟩
theorem hw55I(bB C K G n ck cg:Nat)(c0 c1 c2 c3 c4 c5 cl:Value)(cur:List Int)(gone:List Bool)(v:Nat){M:aB}(hM:aA M)(a0:M.get bB=some ⟨[c0,c1,c2,c3,c4,c5,pt C 0,aC G 0 n cg],56,8,0,true⟩)(a2:M.get C=some ⟨[i64 n,aC K 0 cur.length ck,cl],79,3,0,true⟩)(a4:M.get K=some ⟨cur.map i64,3,1,0,true⟩)(a3:M.get G=some ⟨gone.map Value.bool,4,1,0,true⟩)(a1:n<=60)(a8:cur.length=n*n*5)(hv:v<n)(a9:gone.length=n):∃v_ M',Ev prog [] 62 [pt bB 0,.func (.func 64) ⟨[]⟩ ⟨[]⟩,i64 v] M v_ M'/\Ext M M'/\aA M'/\eR aH (bX n cur gone .inn v) M.next v_ M':=by have a5:=a0;obtain⟨S1,M2,a6,X4,a7,A6⟩:=Zp hM (Ext.refl M) a0 a2 a4 a3 a1 a8 hv a9;exact⟨S1,M2,kA 60 [aL 11 (aC G 0 n cg),.blk 16 [0,1,2,7,15,16,17] .normal (fr [(7,S1)]) M2] Tryz.func62 Uh rK62 (fun B=>vA (eZ B) 0 a6) (hk (lO 7 Cn a5 rfl) (hk (eA (id:=0) rfl) hn)) (tb:=[0]) (hB:=fun _ h=>bQ h),X4,a7,xA A6 (by have h9:(bX n cur gone .inn v).length<=5*n:=jO n cur gone .inn v n;omega)⟩
open Tryz
def Xt:Go.Am.Az->FuncId
 | .out=>63
 | .inn=>64
def Io(w:Go.Am.Az)(v:Value)(_:aB):Prop:=v= .func (.func (Xt w)) ⟨[]⟩ ⟨[]⟩
instance:AP Io:=⟨fun{x y v _} h k=>by unfold Io at h k;rw[h] at k;cases x<;>cases y<;>first|rfl|(simp [Xt] at k),fun _ h=>h⟩
abbrev Q62:=FC (hJ (Ya pBr Io pN) fun x:(Nat×List Int×List Bool)×Go.Am.Az×Nat=>x.1.1<=60/\x.1.2.1.length=x.1.1*x.1.1*5/\x.2.2<x.1.1/\x.1.2.2.length=x.1.1) (eR aH) (fun x=>bX x.1.1 x.1.2.1 x.1.2.2 x.2.1 x.2.2)
theorem Sk{x:(Nat×List Int×List Bool)×Go.Am.Az×Nat}{lv:List Value}{M:aB}(hM:aA M)(h:(hJ (Ya pBr Io pN) fun x:(Nat×List Int×List Bool)×Go.Am.Az×Nat=>x.1.1<=60/\x.1.2.1.length=x.1.1*x.1.1*5/\x.2.2<x.1.1/\x.1.2.2.length=x.1.1) x lv M):∃v M',lK prog [] 62 Q62 lv M v M':=by
 refine FC.con h ?_;obtain⟨⟨g0,g1,g2,rfl,k0,k1,k2⟩,h1,h2,h3,h4⟩:=h;obtain⟨⟨n,cur,gone⟩,w,v⟩:=x;obtain rfl:=k1;obtain rfl:=k2;obtain⟨bB,C,G,cg,c0,c1,c2,c3,c4,c5,rfl,gB,⟨C',K,ck,cl,e,gC,gK⟩,gG⟩:=k0;simp only [pt,Value.pointer.injEq,Option.some.injEq,Addr.mk.injEq,and_true] at e;subst e;cases w with
 |out=>
  obtain⟨v',M',q1,q2,_,q3⟩:=hw55O bB C K G n ck cg c0 c1 c2 c3 c4 c5 cl cur gone v hM gB gC gK gG h1 h2 h3 h4
  exact⟨v',M',q1,q2,q3⟩
 |inn=>
  obtain⟨v',M',q1,q2,_,q3⟩:=hw55I bB C K G n ck cg c0 c1 c2 c3 c4 c5 cl cur gone v hM gB gC gK gG h1 h2 h3 h4
  exact⟨v',M',q1,q2,q3⟩
end Go.Proofs.YtdaglldahidmbaaGreat
