/-
  Package hier: each of its laws for every argument; no conditions. The last text states which.
-/
import Derived.Test.YtdaglldahidmbaaGAHD
import Derived.Test.YtdaglldahidmbaaAmAcd
import Derived.Test.YtdaglldahidmbaaGAmTn
set_option linter.unusedVariables false
set_option linter.unusedSimpArgs false
open Go Go.Am Go.Proofs
namespace Go.Proofs.Ytdaglldahidmbaa
set_option maxRecDepth 100000
theorem rK43:Try.f43.results= #[.tmp 2]:=by kernel_rfl
theorem Mu.newE{M M':aA}{n:Nat}{l:List E4}{S:Value}(h:Mu 37 4 M n ((l.map kL).flatten) S M')(hn:n=l.length)(hl:l.length<=9223372036854775807):aV l S (hid M.next M'):=by
 subst hn
 rcases h with⟨b,rfl,h2,h3,h4,h5⟩|⟨b,rfl,h2,h3,h4,h5⟩
 ·rw[List.eq_nil_of_length_eq_zero h2]
  exact aK.of_blk' (l:=([]:List E4)) (iZ h4 h5) rfl rfl (fun _ h=>by cases h) (by simp)
 ·exact aK.of_blk' (iZ h4 h5) rfl rfl (fun _ _=>rfl) hl
theorem aAs(ad:Addr)(ec:Nat)(l:List E4){M:aA}(hM:aB M)(hl:aV l (.slice (some ad) l.length ec) M)(hl4:l.length<=400): ∃v_ M',Ev Try.prog [] 43 [.slice (some ad) l.length ec] M v_ M'/\Ext M M'/\aB M'/\fG aV l M.next v_ M':=by
 obtain⟨b1,M2,a4,a8,g5,E6,a9⟩:=bG hM ⟨[],37,4,0,true⟩
 have b0:M.next<=b1:=by rw[<-a4];exact(Ext.refl M).next
 have X9:=(Ext.refl M).trans E6
 have a6:Mu 37 4 M 0 [] (aD b1 0 0 1) M2:= .inl ⟨b1,rfl,rfl,rfl,b0,g5⟩
 obtain⟨a2,a1,a0,b2,a7,a3,a5⟩:=Ou (P:=Try.prog) (sT:=24) (xT:=24) (y:=32) a6 X9 a9 (by kernel_rfl) (by kernel_rfl) (by kernel_rfl) (by kernel_rfl) (by decide) (by decide) rfl (AP.ext (R:=aV) (fun id b hg=>(X9).old hg) hl) (by omega) (fun _ _=>rfl)
 have hraw:oT Try.prog [] 60 Try.f43 q43 [.slice (some ad) l.length ec] M [bL 8 (aD b1 0 0 1) M2,.at 12 ((bif a2 then 1 else 2),.val a1,a0)] 2=some (.ret,some a1,a0,[.eq (bE Try.prog 24 0 [] M) (1,.val (aD b1 0 0 1),M2),.q (.append [24,24] (aD b1 0 0 1) (.slice (some ad) l.length ec) M2) ((bif a2 then 1 else 2),.val a1,a0)]):=by cases a2<;>kernel_rfl
 exact⟨a1,a0,Ev.told_tmp aJ aI Try.func43 Ra (by kernel_rfl) rK43 (aG Try.prog) (fun _ _=>rfl) hraw (hk (bZ (by rw[<-a4,<-a8];kernel_rfl) Nat.one_ne_zero) (hk (jD b2 (by cases a2<;>simp)) hn)),a7,a3,Mu.newE (by simpa using a5) (by simp) (by omega)⟩
theorem aAr(u0:Unit){M:aA}(hM:aB M): ∃v_ M',Ev Try.prog [] 43 [cI] M v_ M'/\Ext M M'/\aB M'/\v_=cI:=by
 have hraw:oT Try.prog [] 60 Try.f43 q43 [cI] M [] 2=some (.ret,some cI,M,[]):=by kernel_rfl
 exact⟨cI,M,Ev.told_tmp aJ aI Try.func43 Ra (by kernel_rfl) rK43 (aG Try.prog) (fun _ _=>rfl) hraw hn,Ext.refl M,hM,rfl⟩
abbrev Q43:=FC (iG (tL aV) fun x=>x.length<=400) (fG aV) id
theorem aAa{x:List E4}{lv:List Value}{M:aA}(hM:aB M)(h:(iG (tL aV) fun x:List E4=>x.length<=400) x lv M): ∃v M',lQ Try.prog [] 43 Q43 lv M v M':=by
 refine FC.con h ?_
 obtain⟨⟨g0,rfl,k0⟩,h4⟩:=h
 obtain⟨a,c,rfl⟩:=aK.form k0
 cases a with
 |none=>
  obtain⟨h1,h2⟩:=aK.ln k0 rfl
  subst h2
  rw[List.eq_nil_of_length_eq_zero h1] at k0⊢
  obtain⟨v',M',q1,q2,_,rfl⟩:=aAr () hM
  exact⟨_,M',q1,q2,aK.nil none⟩
 |some a=>
  obtain⟨v',M',q1,q2,_,q3⟩:=aAs a c x hM k0 h4
  exact⟨v',M',q1,q2,q3⟩
theorem aAq:(Try.prog.underlying 31).map dX=some true:=by kernel_rfl
theorem Pt:(Try.prog.info? 31).map (·.size)=some 6:=by kernel_rfl
theorem rK21:Try.f21.results= #[.tmp 2]:=by kernel_rfl
def pNB(x:Nat×List E4)(nx:Nat)(v:Value)(M:aA):Prop:= ∃k ev,v=pt k.B 0/\(∀i∈k.ids,nx<=i)/\cM 53 73 42 22 46 ⟨k,x.1,x.2,ev,cI,⟨⟨[],kU x.1⟩,List.replicate x.1 false,List.replicate x.1 (-1),List.replicate x.1 [],List.replicate x.1 []⟩,List.replicate x.1 cI,List.replicate x.1 cI⟩ M
theorem hw21(n:Nat)(es:List E4)(ea:Option Addr)(ec:Nat){M:aA}(hM:aB M)(hes:aV es (.slice ea es.length ec) M)(hel:es.length<=400)(hn24:1<=n/\n<=24): ∃v_ M',Ev Try.prog [] 21 [.agg ⟨[i64 (n:Int),.slice ea es.length ec]⟩] M v_ M'/\Ext M M'/\aB M'/\pNB (n,es) M.next v_ M':=by
 obtain⟨b1,M2,r4,r5,g5,E6,r9⟩:=bG hM ⟨[i64 (n:Int),.slice ea es.length ec],26,2,0,true⟩
 have X9:=(Ext.refl M).trans E6
 obtain⟨b0,i3,j0,j1,o9,h6,m3⟩:=yW (P:=Try.prog) (t:=35) (elem:=4) (z:=(.bool false)) (n:=n) r9 (by kernel_rfl) (by kernel_rfl) (by omega)
 have s5:M.next<=b0:=by rw[<-j0];exact X9.next
 have s8:=h6.next
 have p0:=h6.old g5
 have o4:=X9.trans h6
 obtain⟨a9,a0,e9,j2,p1,h7,m4⟩:=bG m3 ⟨[i64 0,cI,cI,cI,cI,cI,.pointer none,aD b0 0 n (n+1)],53,8,0,true⟩
 have h2:M.next<=a9:=by rw[<-e9];exact o4.next
 have db1b20:b1≠a9:=by have:=aA.lt_of_get p0;omega
 have db10b20:b0≠a9:=by have:=aA.lt_of_get o9;omega
 have p2:=h7.old p0
 have p3:=h7.old o9
 have c8:=o4.trans h7
 obtain⟨c2,b7⟩: ∃m:aA,m=aA.mk a0.blks a0.next a0.hide []:=⟨_,rfl⟩
 have o5:Ext (aA.mk M.blks M.next M.hide []) c2:=by rw[b7];exact Ext.aside (c8)
 have n2:c2.log= []:=by rw[b7]
 have q7:c2.next=a0.next:=by rw[b7]
 have m5:aB c2:=by rw[b7];exact aB.log m4
 have ltb1M21:b1<a0.next:=by have h:=aA.lt_of_get p2;exact h
 have l9:c2.get b1=some ⟨[i64 (n:Int),.slice ea es.length ec],26,2,0,true⟩:=by rw[b7];exact p2
 have ltb10M21:b0<a0.next:=by have h:=aA.lt_of_get p3;exact h
 have p4:c2.get b0=some ⟨List.replicate n (.bool false),4,1,0,true⟩:=by rw[b7];exact p3
 have ltb20M21:a9<a0.next:=by have h:=aA.lt_of_get p1;exact h
 have p5:c2.get a9=some ⟨[i64 0,cI,cI,cI,cI,cI,.pointer none,aD b0 0 n (n+1)],53,8,0,true⟩:=by rw[b7];exact p1
 have e1:=congrArg aA.next b7
 dsimp only at e1
 have ltb10M44:=aA.lt_of_get p4
 have ltb20M44:=aA.lt_of_get p5
 obtain⟨u1,u2,a2,t2,s3,o7,e5,m6,q8⟩:=aH (x:=es) m5 aAa (⟨⟨_,rfl,AP.Ext (R:=aV) (AP.log (R:=aV) hes) o5⟩,hel⟩)
 have s9:=e5.next
 have r6:=e5.old l9
 have r7:=e5.old p4
 have r8:=e5.old p5
 have o3:aV es u1 (bP [(0,c2.next)] a2):=lI q8
 obtain⟨c3,c4,j4⟩:=aK.form o3
 subst j4
 have n3:a2.log= []:=by rw[<-o7];exact n2
 have o6:=o5.trans e5
 obtain⟨h5,a1,d3,f3,p6,e6,m7⟩:=bG m6 ⟨[i64 (-1)],3,1,0,true⟩
 have s6:M.next<=h5:=by rw[<-d3];exact o6.next
 have q9:=iB (R:=aV) o3 d3 e6
 have m0:=e6.old r6
 have m1:=e6.old r7
 have m2:=e6.old r8
 have n4:a1.log= []:=by rw[<-f3];exact n3
 have h4:=o6.trans e6
 have f1:(n:Int)=(((n):Nat):Int):=rfl
 have ltb1M74:=aA.lt_of_get m0
 have ltb10M74:=aA.lt_of_get m1
 have ltb20M74:=aA.lt_of_get m2
 have ltb57M74:=aA.lt_of_get p6
 obtain⟨w72,u3,a4,t3,s4,o8,e2,m8,r0⟩:=aH (x:=((),n)) m7 Pn (⟨⟨_,_,rfl,⟨_,rfl,p6⟩,congrArg i64 f1⟩,⟨n,hn24,.inl rfl⟩⟩)
 have t0:=e2.next
 have p7:=e2.old m0
 have p8:=e2.old m1
 have p9:=e2.old m2
 obtain⟨b6,j5,e0,g0⟩:=r0
 subst j5
 have db10b71:b0≠b6:=by have:=aA.lt_of_get m1;omega
 have db20b71:a9≠b6:=by have:=aA.lt_of_get m2;omega
 have n7:=e0
 have e0:=Nat.le_trans (h4).next e0
 have n5:a4.log= []:=by rw[<-o8];exact n4
 have i7:=h4.trans e2
 have r1:=So (R:=aV) q9 n7 e2
 obtain⟨b4,a6,f0,j3,q1,d0,m9,n6⟩:=Qo (P:=Try.prog) (t:=29) (elem:=22) (z:=cI) (n:=n) m8 (by kernel_rfl) (by kernel_rfl) (by omega)
 have s7:M.next<=b4:=by rw[<-f0];exact i7.next
 have db10b90:b0≠b4:=by have:=aA.lt_of_get p8;omega
 have db20b90:a9≠b4:=by have:=aA.lt_of_get p9;omega
 have db71b90:b6≠b4:=by have:=aA.lt_of_get g0;omega
 have t1:=d0.next
 have r2:=iB (R:=aV) r1 f0 d0
 have f6:=d0.old p7
 have f7:=d0.old p8
 have f8:=d0.old p9
 have f9:=d0.old g0
 have g8:a6.log= []:=by rw[n6];exact n5
 have d2:=i7.trans d0
 obtain⟨a7,a5,c9,f2,j6,b9,g1,g9⟩:=Qo (P:=Try.prog) (t:=29) (elem:=22) (z:=cI) (n:=n) m9 (by kernel_rfl) (by kernel_rfl) (by omega)
 have q5:M.next<=a7:=by rw[<-c9];exact d2.next
 have db10b107:b0≠a7:=by have:=aA.lt_of_get f7;omega
 have db20b107:a9≠a7:=by have:=aA.lt_of_get f8;omega
 have db71b107:b6≠a7:=by have:=aA.lt_of_get f9;omega
 have db90b107:b4≠a7:=by have:=aA.lt_of_get q1;omega
 have h8:=iB (R:=aV) r2 c9 b9
 have j7:=b9.old f6
 have j8:=b9.old f7
 have j9:=b9.old f8
 have k0:=b9.old f9
 have k1:=b9.old q1
 have h0:a5.log= []:=by rw[g9];exact g8
 have e7:=d2.trans b9
 obtain⟨a3,n9,d4,b5,e8,g2,h3⟩:=bH (o:=0) (v:=(.agg ⟨[i64 (n:Int),.slice c3 es.length c4,aD b6 0 n (n+1),cI,aD b4 0 n (n+1),aD a7 0 n (n+1)]⟩)) (new:= [i64 (n:Int),.slice c3 es.length c4,aD b6 0 n (n+1),cI,aD b4 0 n (n+1),aD a7 0 n (n+1),.pointer none,aD b0 0 n (n+1)]) e7 h2 g1 Pt j9 rfl rfl (Nat.zero_le _) (Nat.le_of_ble_eq_true rfl) rfl
 replace d4:a3.get a9=some ⟨[i64 (n:Int),.slice c3 es.length c4,aD b6 0 n (n+1),cI,aD b4 0 n (n+1),aD a7 0 n (n+1),.pointer none,aD b0 0 n (n+1)],53,8,0,true⟩:=d4
 have i0:=gO (R:=aV) h8 (fun id h _=>b5 id h) (by intro id hh;simp only [bN] at hh;omega)
 have k2:=(b5 _ db1b20).trans j7
 have k3:=(b5 _ db10b20).trans j8
 have k4:=(b5 _ (Ne.symm db20b71)).trans k0
 have k5:=(b5 _ (Ne.symm db20b90)).trans k1
 have k6:=(b5 _ (Ne.symm db20b107)).trans j6
 have h1:a3.log= [a9]:=by rw[h3,h0]
 obtain⟨b3,a8⟩: ∃m:aA,m=(aA.mk a3.blks a3.next a3.hide (a3.log++a0.log)):=⟨_,rfl⟩
 have i4:Ext M b3:=by rw[a8];exact Ext.join (c8) (e8)
 have g3:aB b3:=by rw[a8];exact g2
 have k7:b3.get b1=some ⟨[i64 (n:Int),.slice ea es.length ec],26,2,0,true⟩:=by rw[a8];exact k2
 have d5:b3.get b0=some ⟨List.replicate n (.bool false),4,1,0,true⟩:=by rw[a8];exact k3
 have d6:b3.get a9=some ⟨[i64 (n:Int),.slice c3 es.length c4,aD b6 0 n (n+1),cI,aD b4 0 n (n+1),aD a7 0 n (n+1),.pointer none,aD b0 0 n (n+1)],53,8,0,true⟩:=by rw[a8];exact d4
 have c6:b3.get b6=some ⟨List.replicate (n) (i64 (-1)),3,1,0,true⟩:=by rw[a8];exact k4
 have d7:b3.get b4=some ⟨List.replicate n cI,22,1,0,true⟩:=by rw[a8];exact k5
 have d8:b3.get a7=some ⟨List.replicate n cI,22,1,0,true⟩:=by rw[a8];exact k6
 have i1:=eM (R:=aV) (M':=b3) i0 (fun id b h=>by rw[a8];exact h)
 have c7:=congrArg aA.next a8
 dsimp only at c7
 have ltb71M154:=aA.lt_of_get c6
 obtain⟨u0,r3,d1,n8,n1,i9,b8,g4,i2⟩:=aH (x:=(n,a9)) g3 Va (⟨⟨_,_,rfl,rfl,rfl⟩,hn24⟩)
 have k8:=b8.old d5
 have k9:=b8.old d6
 have l0:=b8.old c6
 have l1:=b8.old d7
 have l2:=b8.old d8
 obtain⟨C2,K2,f5,e3,e4,i8,q2,q3⟩:=i2
 simp only [id] at q2 q3
 subst f5
 have i5:=i4.trans b8
 have db10C2:b0≠C2:=by have h9:=aA.lt_of_get d5;exact Nat.ne_of_lt (Nat.lt_of_lt_of_le h9 e3)
 have db10K2:b0≠K2:=by have h9:=aA.lt_of_get d5;exact Nat.ne_of_lt (Nat.lt_of_lt_of_le h9 e4)
 have db20C2:a9≠C2:=by have h9:=aA.lt_of_get d6;exact Nat.ne_of_lt (Nat.lt_of_lt_of_le h9 e3)
 have db20K2:a9≠K2:=by have h9:=aA.lt_of_get d6;exact Nat.ne_of_lt (Nat.lt_of_lt_of_le h9 e4)
 have db71C2:b6≠C2:=by have h9:=aA.lt_of_get c6;exact Nat.ne_of_lt (Nat.lt_of_lt_of_le h9 e3)
 have db71K2:b6≠K2:=by have h9:=aA.lt_of_get c6;exact Nat.ne_of_lt (Nat.lt_of_lt_of_le h9 e4)
 have db90C2:b4≠C2:=by have h9:=aA.lt_of_get d7;exact Nat.ne_of_lt (Nat.lt_of_lt_of_le h9 e3)
 have db90K2:b4≠K2:=by have h9:=aA.lt_of_get d7;exact Nat.ne_of_lt (Nat.lt_of_lt_of_le h9 e4)
 have db107C2:a7≠C2:=by have h9:=aA.lt_of_get d8;exact Nat.ne_of_lt (Nat.lt_of_lt_of_le h9 e3)
 have db107K2:a7≠K2:=by have h9:=aA.lt_of_get d8;exact Nat.ne_of_lt (Nat.lt_of_lt_of_le h9 e4)
 obtain⟨c0,o0,d9,b2,i6,g6,q6⟩:=bH (o:=6) (v:=(pt C2 0)) (new:= [i64 (n:Int),.slice c3 es.length c4,aD b6 0 n (n+1),cI,aD b4 0 n (n+1),aD a7 0 n (n+1),pt C2 0,aD b0 0 n (n+1)]) i5 h2 g4 dS51 k9 rfl rfl (Nat.zero_le _) (Nat.le_of_ble_eq_true rfl) rfl
 replace d9:c0.get a9=some ⟨[i64 (n:Int),.slice c3 es.length c4,aD b6 0 n (n+1),cI,aD b4 0 n (n+1),aD a7 0 n (n+1),pt C2 0,aD b0 0 n (n+1)],53,8,0,true⟩:=d9
 have l3:=(b2 _ db10b20).trans k8
 have l4:=(b2 _ (Ne.symm db20b71)).trans l0
 have l5:=(b2 _ (Ne.symm db20b90)).trans l1
 have l6:=(b2 _ (Ne.symm db20b107)).trans l2
 have l7:=(b2 _ (Ne.symm db20C2)).trans q2
 have l8:=(b2 _ (Ne.symm db20K2)).trans q3
 have dC2K2:=i8
 have c1:a9<c2.next:=by first|omega|exact aA.lt_of_get (by assumption)
 have c5:b0<c2.next:=by first|omega|exact aA.lt_of_get (by assumption)
 have hesF:aV es (.slice c3 es.length c4) (bP ((⟨a9,C2,K2,b0,b6,b4,a7⟩:BK).hideS cI) c0):=AP.ext (R:=aV) (fun id b hg=>by rw[bS] at hg;simp only [bN,nY,and_true] at hg;obtain⟨⟨s0,s1,s2,u4,g7⟩,n0⟩:=hg;have hl:=aA.lt_of_get n0;rw[lG];exact⟨⟨(Nat.ne_of_gt (Nat.lt_of_lt_of_le c1 (Nat.le_of_not_lt (fun e=>g7 ⟨Nat.zero_le _,e⟩)))),fun e=>by simp only [BK.ids,List.mem_cons,List.not_mem_nil,or_false] at e;rcases e with e|e|e|e|e|e|e<;>first|exact(Nat.ne_of_gt (Nat.lt_of_lt_of_le c1 (Nat.le_of_not_lt (fun e=>g7 ⟨Nat.zero_le _,e⟩)))) e|exact(Nat.ne_of_lt (Nat.lt_of_lt_of_le hl e3)) e|exact(Nat.ne_of_lt (Nat.lt_of_lt_of_le hl e4)) e|exact(Nat.ne_of_gt (Nat.lt_of_lt_of_le c5 (Nat.le_of_not_lt (fun e=>g7 ⟨Nat.zero_le _,e⟩)))) e|exact(Ln s2) e|exact(Ln s1) e|exact(Ln s0) e,Nat.le_of_lt (Nat.lt_of_lt_of_le c5 (Nat.le_of_not_lt (fun e=>g7 ⟨Nat.zero_le _,e⟩)))⟩,((fun id h _=>b2 id h) id (Nat.ne_of_gt (Nat.lt_of_lt_of_le c1 (Nat.le_of_not_lt (fun e=>g7 ⟨Nat.zero_le _,e⟩)))) (aA.lt_of_get (b8.old n0))).trans (b8.old n0)⟩) i1
 have hPB:cM 53 73 42 22 46 ⟨(⟨a9,C2,K2,b0,b6,b4,a7⟩:BK),n,es,.slice c3 es.length c4,cI,⟨⟨[],kU n⟩,List.replicate n false,List.replicate n (-1),List.replicate n [],List.replicate n []⟩,List.replicate n cI,List.replicate n cI⟩ c0:=⟨d9,l7,l8,(by rw[List.map_replicate];exact l3),(by rw[List.map_replicate];exact l4),l5,l6,.inl ⟨rfl,rfl⟩,fun i hi=>by simp only [BK.ids,List.mem_cons,List.not_mem_nil,or_false] at hi;rcases hi with e|e|e|e|e|e|e<;>(rw[e];show b0<=_;omega),nd7i db20C2 db20K2 (Ne.symm db10b20) db20b71 db20b90 db20b107 dC2K2 (Ne.symm db10C2) (Ne.symm db71C2) (Ne.symm db90C2) (Ne.symm db107C2) (Ne.symm db10K2) (Ne.symm db71K2) (Ne.symm db90K2) (Ne.symm db107K2) db10b71 db10b90 db10b107 db71b90 db71b107 db90b107,hesF,Go.Am.fK.none,Go.Am.fK.none⟩
 have hraw:oT Try.prog [] 60 Try.f21 q21 [.agg ⟨[i64 (n:Int),.slice ea es.length ec]⟩] M [bL 1 (pt b1 0) M2,aU 7 (i64 (n:Int)),bL 9 (aD b0 0 n (n+1)) i3,bL 13 (pt a9 0) a0,aU 21 (i64 (n:Int)),aU 25 (.slice ea es.length ec),bL 27 (.slice c3 es.length c4) a2,bL 31 (aD h5 0 1 2) (aA.mk a1.blks a1.next (aS 0 [⟨5,1,a0.next,a2.next⟩,⟨4,1,a0.next,a0.next⟩]++a0.hide) a1.log),aU 35 (i64 (n:Int)),bL 37 (aD b6 0 n (n+1)) a4,aU 41 (i64 (n:Int)),bL 43 (aD b4 0 n (n+1)) (aA.mk a6.blks a6.next (aS 6144 [⟨10,1,a1.next,a4.next⟩,⟨7,1,a2.next,a1.next⟩,⟨5,1,a0.next,a2.next⟩,⟨4,1,a0.next,a0.next⟩]++a0.hide) a6.log),aU 47 (i64 (n:Int)),bL 49 (aD a7 0 n (n+1)) (aA.mk a5.blks a5.next (aS 49152 [⟨13,1,a4.next,a6.next⟩,⟨10,1,a1.next,a4.next⟩,⟨7,1,a2.next,a1.next⟩,⟨5,1,a0.next,a2.next⟩,⟨4,1,a0.next,a0.next⟩]++a0.hide) a5.log),lP 57 a3,aU 63 (i64 (n:Int)),bL 69 (pt C2 0) d1,lP 75 c0] 2=some (.ret,some (pt a9 0),c0,[.eq (fE Try.prog 26 (.agg ⟨[i64 (n:Int),.slice ea es.length ec]⟩) M) (1,.val (pt b1 0),M2),qL 3 b1 0 M2 (i64 (n:Int)),.eq (cB Try.prog 35 (i64 (n:Int)) (i64 (n:Int)) M2) (1,.val (aD b0 0 n (n+1)),i3),.eq (fE Try.prog 53 (.agg ⟨[i64 0,cI,cI,cI,cI,cI,.pointer none,aD b0 0 n (n+1)]⟩) i3) (1,.val (pt a9 0),a0),qL 3 b1 0 (aA.mk a0.blks a0.next a0.hide []) (i64 (n:Int)),qT (Nat.blt b1 a0.next),qL 24 b1 1 (aA.mk a0.blks a0.next a0.hide []) (.slice ea es.length ec),qC 43 [.slice ea es.length ec] (aA.mk a0.blks a0.next a0.hide []) (.slice c3 es.length c4) a2,.eq (bE Try.prog 22 1 [(0,(i64 (-1)))] (aA.mk a2.blks a2.next (aS 0 [⟨5,1,a0.next,a2.next⟩,⟨4,1,a0.next,a0.next⟩]++a0.hide) a2.log)) (1,.val (aD h5 0 1 2),(aA.mk a1.blks a1.next (aS 0 [⟨5,1,a0.next,a2.next⟩,⟨4,1,a0.next,a0.next⟩]++a0.hide) a1.log)),qL 3 b1 0 (aA.mk (aA.mk a1.blks a1.next (aS 0 [⟨5,1,a0.next,a2.next⟩,⟨4,1,a0.next,a0.next⟩]++a0.hide) a1.log).blks (aA.mk a1.blks a1.next (aS 0 [⟨5,1,a0.next,a2.next⟩,⟨4,1,a0.next,a0.next⟩]++a0.hide) a1.log).next (aS 256 [⟨7,1,a2.next,(aA.mk a1.blks a1.next (aS 0 [⟨5,1,a0.next,a2.next⟩,⟨4,1,a0.next,a0.next⟩]++a0.hide) a1.log).next⟩,⟨5,1,a0.next,a2.next⟩,⟨4,1,a0.next,a0.next⟩]++a0.hide) (aA.mk a1.blks a1.next (aS 0 [⟨5,1,a0.next,a2.next⟩,⟨4,1,a0.next,a0.next⟩]++a0.hide) a1.log).log) (i64 (n:Int)),qT (Nat.blt b1 a0.next),qC 44 [aD h5 0 1 2,i64 (n:Int)] (aA.mk (aA.mk a1.blks a1.next (aS 0 [⟨5,1,a0.next,a2.next⟩,⟨4,1,a0.next,a0.next⟩]++a0.hide) a1.log).blks (aA.mk a1.blks a1.next (aS 0 [⟨5,1,a0.next,a2.next⟩,⟨4,1,a0.next,a0.next⟩]++a0.hide) a1.log).next a0.hide (aA.mk a1.blks a1.next (aS 0 [⟨5,1,a0.next,a2.next⟩,⟨4,1,a0.next,a0.next⟩]++a0.hide) a1.log).log) (aD b6 0 n (n+1)) a4,qL 3 b1 0 (aA.mk a4.blks a4.next (aS 2048 [⟨10,1,(aA.mk a1.blks a1.next (aS 0 [⟨5,1,a0.next,a2.next⟩,⟨4,1,a0.next,a0.next⟩]++a0.hide) a1.log).next,a4.next⟩,⟨7,1,a2.next,(aA.mk a1.blks a1.next (aS 0 [⟨5,1,a0.next,a2.next⟩,⟨4,1,a0.next,a0.next⟩]++a0.hide) a1.log).next⟩,⟨5,1,a0.next,a2.next⟩,⟨4,1,a0.next,a0.next⟩]++a0.hide) a4.log) (i64 (n:Int)),qT (Nat.blt b1 a0.next),.eq (cB Try.prog 29 (i64 (n:Int)) (i64 (n:Int)) (aA.mk a4.blks a4.next (aS 6144 [⟨10,1,(aA.mk a1.blks a1.next (aS 0 [⟨5,1,a0.next,a2.next⟩,⟨4,1,a0.next,a0.next⟩]++a0.hide) a1.log).next,a4.next⟩,⟨7,1,a2.next,(aA.mk a1.blks a1.next (aS 0 [⟨5,1,a0.next,a2.next⟩,⟨4,1,a0.next,a0.next⟩]++a0.hide) a1.log).next⟩,⟨5,1,a0.next,a2.next⟩,⟨4,1,a0.next,a0.next⟩]++a0.hide) a4.log)) (1,.val (aD b4 0 n (n+1)),(aA.mk a6.blks a6.next (aS 6144 [⟨10,1,a1.next,a4.next⟩,⟨7,1,a2.next,a1.next⟩,⟨5,1,a0.next,a2.next⟩,⟨4,1,a0.next,a0.next⟩]++a0.hide) a6.log)),qL 3 b1 0 (aA.mk (aA.mk a6.blks a6.next (aS 6144 [⟨10,1,a1.next,a4.next⟩,⟨7,1,a2.next,a1.next⟩,⟨5,1,a0.next,a2.next⟩,⟨4,1,a0.next,a0.next⟩]++a0.hide) a6.log).blks (aA.mk a6.blks a6.next (aS 6144 [⟨10,1,a1.next,a4.next⟩,⟨7,1,a2.next,a1.next⟩,⟨5,1,a0.next,a2.next⟩,⟨4,1,a0.next,a0.next⟩]++a0.hide) a6.log).next (aS 16384 [⟨13,1,a4.next,(aA.mk a6.blks a6.next (aS 6144 [⟨10,1,a1.next,a4.next⟩,⟨7,1,a2.next,a1.next⟩,⟨5,1,a0.next,a2.next⟩,⟨4,1,a0.next,a0.next⟩]++a0.hide) a6.log).next⟩,⟨10,1,(aA.mk a1.blks a1.next (aS 0 [⟨5,1,a0.next,a2.next⟩,⟨4,1,a0.next,a0.next⟩]++a0.hide) a1.log).next,a4.next⟩,⟨7,1,a2.next,(aA.mk a1.blks a1.next (aS 0 [⟨5,1,a0.next,a2.next⟩,⟨4,1,a0.next,a0.next⟩]++a0.hide) a1.log).next⟩,⟨5,1,a0.next,a2.next⟩,⟨4,1,a0.next,a0.next⟩]++a0.hide) (aA.mk a6.blks a6.next (aS 6144 [⟨10,1,a1.next,a4.next⟩,⟨7,1,a2.next,a1.next⟩,⟨5,1,a0.next,a2.next⟩,⟨4,1,a0.next,a0.next⟩]++a0.hide) a6.log).log) (i64 (n:Int)),qT (Nat.blt b1 a0.next),.eq (cB Try.prog 29 (i64 (n:Int)) (i64 (n:Int)) (aA.mk (aA.mk a6.blks a6.next (aS 6144 [⟨10,1,a1.next,a4.next⟩,⟨7,1,a2.next,a1.next⟩,⟨5,1,a0.next,a2.next⟩,⟨4,1,a0.next,a0.next⟩]++a0.hide) a6.log).blks (aA.mk a6.blks a6.next (aS 6144 [⟨10,1,a1.next,a4.next⟩,⟨7,1,a2.next,a1.next⟩,⟨5,1,a0.next,a2.next⟩,⟨4,1,a0.next,a0.next⟩]++a0.hide) a6.log).next (aS 49152 [⟨13,1,a4.next,(aA.mk a6.blks a6.next (aS 6144 [⟨10,1,a1.next,a4.next⟩,⟨7,1,a2.next,a1.next⟩,⟨5,1,a0.next,a2.next⟩,⟨4,1,a0.next,a0.next⟩]++a0.hide) a6.log).next⟩,⟨10,1,(aA.mk a1.blks a1.next (aS 0 [⟨5,1,a0.next,a2.next⟩,⟨4,1,a0.next,a0.next⟩]++a0.hide) a1.log).next,a4.next⟩,⟨7,1,a2.next,(aA.mk a1.blks a1.next (aS 0 [⟨5,1,a0.next,a2.next⟩,⟨4,1,a0.next,a0.next⟩]++a0.hide) a1.log).next⟩,⟨5,1,a0.next,a2.next⟩,⟨4,1,a0.next,a0.next⟩]++a0.hide) (aA.mk a6.blks a6.next (aS 6144 [⟨10,1,a1.next,a4.next⟩,⟨7,1,a2.next,a1.next⟩,⟨5,1,a0.next,a2.next⟩,⟨4,1,a0.next,a0.next⟩]++a0.hide) a6.log).log)) (1,.val (aD a7 0 n (n+1)),(aA.mk a5.blks a5.next (aS 49152 [⟨13,1,a4.next,a6.next⟩,⟨10,1,a1.next,a4.next⟩,⟨7,1,a2.next,a1.next⟩,⟨5,1,a0.next,a2.next⟩,⟨4,1,a0.next,a0.next⟩]++a0.hide) a5.log)),qS 31 a9 0 (.agg ⟨[i64 (n:Int),.slice c3 es.length c4,aD b6 0 n (n+1),cI,aD b4 0 n (n+1),aD a7 0 n (n+1)]⟩) (aA.mk (aA.mk a5.blks a5.next (aS 49152 [⟨13,1,a4.next,a6.next⟩,⟨10,1,a1.next,a4.next⟩,⟨7,1,a2.next,a1.next⟩,⟨5,1,a0.next,a2.next⟩,⟨4,1,a0.next,a0.next⟩]++a0.hide) a5.log).blks (aA.mk a5.blks a5.next (aS 49152 [⟨13,1,a4.next,a6.next⟩,⟨10,1,a1.next,a4.next⟩,⟨7,1,a2.next,a1.next⟩,⟨5,1,a0.next,a2.next⟩,⟨4,1,a0.next,a0.next⟩]++a0.hide) a5.log).next a0.hide (aA.mk a5.blks a5.next (aS 49152 [⟨13,1,a4.next,a6.next⟩,⟨10,1,a1.next,a4.next⟩,⟨7,1,a2.next,a1.next⟩,⟨5,1,a0.next,a2.next⟩,⟨4,1,a0.next,a0.next⟩]++a0.hide) a5.log).log) a3,qT (cQ [b1,b1,b1,b1] a3.log),qL 3 b1 0 (aA.mk a3.blks a3.next a0.hide (a3.log++a0.log)) (i64 (n:Int)),qC 45 [i64 (n:Int),.func (.func 46) ⟨[pt a9 0]⟩ ⟨[]⟩] (aA.mk a3.blks a3.next a0.hide (a3.log++a0.log)) (pt C2 0) d1,qS 51 a9 6 (pt C2 0) d1 c0]):=by kernel_rfl
 dsimp only at hraw
 have t4:aA.mk a0.blks a0.next a0.hide []=c2:=b7.symm
 have t5:aA.mk a1.blks a1.next a0.hide a1.log=a1:=by rw[(show a0.hide=a1.hide from((c8).hide.trans (h4).hide.symm))]
 have t6:aA.mk a1.blks a1.next (aS 256 [⟨7,1,a2.next,a1.next⟩,⟨5,1,a0.next,a2.next⟩,⟨4,1,a0.next,a0.next⟩]++a0.hide) a1.log=bP (aS 256 [⟨7,1,a2.next,a1.next⟩,⟨5,1,a0.next,a2.next⟩,⟨4,1,a0.next,a0.next⟩]) a1:=by rw[(show a0.hide=a1.hide from((c8).hide.trans (h4).hide.symm))];rfl
 have t7:aA.mk a4.blks a4.next (aS 2048 [⟨10,1,a1.next,a4.next⟩,⟨7,1,a2.next,a1.next⟩,⟨5,1,a0.next,a2.next⟩,⟨4,1,a0.next,a0.next⟩]++a0.hide) a4.log=bP (aS 2048 [⟨10,1,a1.next,a4.next⟩,⟨7,1,a2.next,a1.next⟩,⟨5,1,a0.next,a2.next⟩,⟨4,1,a0.next,a0.next⟩]) a4:=by rw[(show a0.hide=a4.hide from((c8).hide.trans (i7).hide.symm))];rfl
 have t8:aA.mk a6.blks a6.next (aS 16384 [⟨13,1,a4.next,a6.next⟩,⟨10,1,a1.next,a4.next⟩,⟨7,1,a2.next,a1.next⟩,⟨5,1,a0.next,a2.next⟩,⟨4,1,a0.next,a0.next⟩]++a0.hide) a6.log=bP (aS 16384 [⟨13,1,a4.next,a6.next⟩,⟨10,1,a1.next,a4.next⟩,⟨7,1,a2.next,a1.next⟩,⟨5,1,a0.next,a2.next⟩,⟨4,1,a0.next,a0.next⟩]) a6:=by rw[(show a0.hide=a6.hide from((c8).hide.trans (d2).hide.symm))];rfl
 have t9:aA.mk a5.blks a5.next a0.hide a5.log=a5:=by rw[(show a0.hide=a5.hide from((c8).hide.trans (e7).hide.symm))]
 have o1:(aA.mk a3.blks a3.next a0.hide (a3.log++a0.log))=(aA.mk a3.blks a3.next a3.hide (a3.log++a0.log)):=by rw[(show a0.hide=a3.hide from((c8).hide.trans (e8).hide.symm))]
 have o2:(aA.mk a3.blks a3.next a3.hide (a3.log++a0.log))=b3:=a8.symm
 try rw[t4] at hraw
 try rw[t5] at hraw
 try rw[t6] at hraw
 try rw[t7] at hraw
 try rw[t8] at hraw
 try rw[t9] at hraw
 try rw[o1] at hraw
 try rw[o2] at hraw
 exact⟨pt a9 0,c0,Ev.told_tmp aJ aI Try.func21 Xb (by kernel_rfl) rK21 (fun B=>lO (gF 43 Q43 (gF 44 Q44 (gF 45 Zn (gQ _))))) (fun _ _=>rfl) hraw (hk (bZ (by rw[<-r4,<-r5];kernel_rfl) Nat.one_ne_zero) (hk (lC cO g5 rfl) (hk (bZ j1 Nat.one_ne_zero) (hk (bZ (by rw[<-e9,<-j2];kernel_rfl) Nat.one_ne_zero) (hk (lC cO l9 rfl) (hk (mE ltb1M21) (hk (lC cP l9 rfl) (hk (aN rfl t2 s3 o7) (hk (bZ (by rw[<-d3,<-f3];kernel_rfl) Nat.one_ne_zero) (hk (lC cO (bS.2 ⟨cY (by simp;omega),m0⟩) rfl) (hk (mE ltb1M21) (hk (aN rfl t3 s4 o8) (hk (lC cO (bS.2 ⟨cY (by simp;omega),p7⟩) rfl) (hk (mE ltb1M21) (hk (bZ (j3 _) Nat.one_ne_zero) (hk (lC cO (bS.2 ⟨cY (by simp;omega),f6⟩) rfl) (hk (mE ltb1M21) (hk (bZ (f2 _) Nat.one_ne_zero) (hk (eF n9) (hk (dZ (by rw[h1];simp<;>omega)) (hk (lC cO k7 rfl) (hk (aN rfl n8 n1 i9) (hk (eF o0) hn))))))))))))))))))))))),i6,g6,⟨(⟨a9,C2,K2,b0,b6,b4,a7⟩:BK),_,rfl,fun i hi=>by simp only [BK.ids,List.mem_cons,List.not_mem_nil,or_false] at hi;rcases hi with e|e|e|e|e|e|e<;>(rw[e];omega),hPB⟩⟩
instance:AQ pNB:=⟨fun hE ⟨k,ev,h1,h2,h3⟩=>⟨k,ev,h1,h2,h3.old hE⟩⟩
abbrev Q21:=FC (iG (tL jC) fun x:Nat×List E4=>(1<=x.1/\x.1<=24)/\x.2.length<=400) pNB id
theorem Zu{x:Nat×List E4}{lv:List Value}{M:aA}(hM:aB M)(h:(iG (tL jC) fun x:Nat×List E4=>(1<=x.1/\x.1<=24)/\x.2.length<=400) x lv M): ∃v M',lQ Try.prog [] 21 Q21 lv M v M':=by
 refine FC.con h ?_
 obtain⟨⟨g0,rfl,k0⟩,h1,h2⟩:=h
 obtain⟨n,es⟩:=x
 obtain⟨L,rfl,hes⟩:=k0
 obtain⟨ea,ec,rfl⟩:=aK.form hes
 obtain⟨v,M',q1,q2,_,q3⟩:=hw21 n es ea ec hM hes h2 h1
 exact⟨v,M',q1,q2,q3⟩
theorem rBo(v r bB C K G R U D n rb ro rc m i:Nat)(es:List E4)(ev S:Value)(s0:HB)(gone:List Bool)(rank:List Int)(up down:List (List Int))(us ds:List Value){M M0:aA}(hM:aB M)(X0:Ext M0 M)(h0:M0.next=G)(hb:cM 53 73 42 22 46 ⟨⟨bB,C,K,G,R,U,D⟩,n,es,ev,S,⟨s0,gone,rank,up,down⟩,us,ds⟩ M)(hv:v<n)(hrl:rank.length=n)(hok:Wr ⟨⟨bB,C,K,G,R,U,D⟩,n,es,ev,S,⟨s0,gone,rank.set v (i:Int),up,down⟩,us,ds⟩ v)(cc0:(decide ((i:Int)<(m:Int)))=true)(hld0:aX Try.prog 3 ⟨rb,ro+((i:Int):Int).toNat*1,none⟩ M=some (i64 (v:Int)))(hof1:0+((v:Int):Int).toNat*1+1<=(rank.map i64).length): ∃T1 M' S15 u16 d17,Rd Try.prog [] (q11.loopAt 0) Try.f11.ntmps (fr [(2,(pt r 0)),(3,(pt bB 0)),(15,(aD rb ro m rc)),(16,(i64 (m:Int))),(17,(i64 (i:Int)))]) M .normal T1 M'/\ [2,3,15,16,17].map T1.get= [some (pt r 0),some (pt bB 0),some (aD rb ro m rc),some (i64 (m:Int)),some (i64 (IntKind.wrap .i64 ((i:Int)+(1:Int))))]/\Ext M0 M'/\aB M'/\cM 53 73 42 22 46 ⟨⟨bB,C,K,G,R,U,D⟩,n,es,ev,S15,sD n ⟨s0,gone,rank.set v (i:Int),up,down⟩ v,u16,d17⟩ M'/\rF (⟨bB,C,K,G,R,U,D⟩:BK) S M S15 M':=by
 have gbB:M.get bB=some ⟨[i64 n,ev,aD R 0 n (n+1),S,aD U 0 n (n+1),aD D 0 n (n+1),pt C 0,aD G 0 n (n+1)],53,8,0,true⟩:=hb.gB
 have gC:M.get C=some ⟨[i64 n,aD K 0 (n*n*5) (n*n*5+1),.func (.func 46) ⟨[pt bB 0]⟩ ⟨[]⟩],73,3,0,true⟩:=hb.gC
 have gK:M.get K=some ⟨s0.cur.map i64,3,1,0,true⟩:=hb.gK
 have gG:M.get G=some ⟨gone.map Value.bool,4,1,0,true⟩:=hb.gG
 have gR:M.get R=some ⟨rank.map i64,3,1,0,true⟩:=hb.gR
 have gU:M.get U=some ⟨us,22,1,0,true⟩:=hb.gU
 have gD:M.get D=some ⟨ds,22,1,0,true⟩:=hb.gD
 have nG:M0.next<=G:=by rw[h0];exact hb.lo G (by simp [BK.ids])
 have nR:M0.next<=R:=by rw[h0];exact hb.lo R (by simp [BK.ids])
 have hnd:([bB,C,K,G,R,U,D]:List Nat).Nodup:=hb.nd
 obtain⟨dbBC,dbBK,dbBG,dbBR,dbBU,dbBD,dCK,dCG,dCR,dCU,dCD,dKG,dKR,dKU,dKD,dGR,dGU,dGD,dRU,dRD,dUD⟩:=Ze hnd
 have b8:cU 42 7 M0 [bB,C,K,G,R,U,D] s0.arcs.length ((s0.arcs.map kB).flatten) S M:=hb.acc.acc (Nat.le_of_eq h0)
 obtain⟨M1,q2,g3,a0,X5,c0,c2⟩:=bH (o:=0+((v:Int):Int).toNat*1) (v:=(i64 (i:Int))) (new:=splice (rank.map i64) (0+((v:Int):Int).toNat*1) [i64 (i:Int)]) X0 nR hM He gR rfl rfl (Nat.zero_le _) hof1 rfl
 replace g3:M1.get R=some ⟨splice (rank.map i64) (0+((v:Int):Int).toNat*1) [i64 (i:Int)],3,1,0,true⟩:=g3
 have A8:=b8.keep (by simp) (fun id h _=>a0 id h)
 have g9:=(a0 _ dbBR).trans gbB
 have b4:=(a0 _ dCR).trans gC
 have b5:=(a0 _ dKR).trans gK
 have b0:=(a0 _ dGR).trans gG
 have b6:=(a0 _ (Ne.symm dRU)).trans gU
 have b7:=(a0 _ (Ne.symm dRD)).trans gD
 have b2:=mM q2
 rw[Go.Am.Sq (by rw[hrl];exact hv)] at g3
 have hkp: ∀id k,M.get id=some k-> ¬(id=(⟨bB,C,K,G,R,U,D⟩:BK).a S\/id∈ [bB,C,K,G,R,U,D])->M1.get id=some k:=fun id k g hown=>by
  have b1:id∉ [bB,C,K,G,R,U,D]:=fun e=>hown (.inr e)
  simp only [List.mem_cons,List.not_mem_nil,or_false,not_or] at b1
  obtain⟨h_bB,h_C,h_K,h_G,h_R,h_U,h_D⟩:=b1
  have g:=((fun id h _=>a0 id h) id h_R (aA.lt_of_get g)).trans g
  exact g
 have c1:cM 53 73 42 22 46 ⟨⟨bB,C,K,G,R,U,D⟩,n,es,ev,S,⟨s0,gone,rank.set v (i:Int),up,down⟩,us,ds⟩ M1:=cM.next (x:=⟨⟨bB,C,K,G,R,U,D⟩,n,es,ev,S,⟨s0,gone,rank,up,down⟩,us,ds⟩) (s:=⟨s0,gone,rank.set v (i:Int),up,down⟩) hb hkp (.inl rfl) g9 b4 b5 b0 g3 b6 b7 (fC.of_acc (A8.less (fun x hx=>hx)) rfl rfl (Nat.le_of_eq h0.symm)) (hb.up.ext (iA (x:=⟨⟨bB,C,K,G,R,U,D⟩,n,es,ev,S,⟨s0,gone,rank,up,down⟩,us,ds⟩) hkp (.inl rfl))) (hb.down.ext (iA (x:=⟨⟨bB,C,K,G,R,U,D⟩,n,es,ev,S,⟨s0,gone,rank,up,down⟩,us,ds⟩) hkp (.inl rfl)))
 obtain⟨a9,w21,a1,a6,b3,a2,a8,a7,a3⟩:=mZ (P:=Try.prog) (o:=ob24) (f:=24) (x:=(⟨⟨bB,C,K,G,R,U,D⟩,n,es,ev,S,⟨s0,gone,rank.set v (i:Int),up,down⟩,us,ds⟩,v)) (l:= [pt bB 0,i64 (v:Int)]) c0 X5 (nG) (Nat.le_of_lt (aA.lt_of_get b0)) (⟨rfl,c1,hok⟩) Zx
 obtain⟨S15,u16,d17,_,a5,a4,rfl⟩:=a3
 have b9:rF (⟨bB,C,K,G,R,U,D⟩:BK) S M S M1:=⟨hkp,.inl rfl,by omega⟩
 have hraw:oR Try.prog [] 60 Try.f11 (q11.loopAt 0) [(2,(pt r 0)),(3,(pt bB 0)),(15,(aD rb ro m rc)),(16,(i64 (m:Int))),(17,(i64 (i:Int)))] M [aM 2,aM 6,aU 8 (i64 (v:Int)),aU 22 (aD R 0 n (n+1)),aM 28,lP 30 M1,.at 36 ((bif a9 then 1 else 2),.val w21,a1)] [2,3,15,16,17]=some (.normal,[some (pt r 0),some (pt bB 0),some (aD rb ro m rc),some (i64 (m:Int)),some (i64 (IntKind.wrap .i64 ((i:Int)+(1:Int))))],a1,[qT (decide ((i:Int)<(m:Int))),.q (.inb (i:Int) m) (fM true),qL 3 rb (ro+((i:Int):Int).toNat*1) M (i64 (v:Int)),qL 22 bB 2 M (aD R 0 n (n+1)),.q (.inb (v:Int) n) (fM true),qS 3 R (0+((v:Int):Int).toNat*1) (i64 (i:Int)) M M1,.cl 24 [pt bB 0,i64 (v:Int)] M1 ((bif a9 then 1 else 2),.val w21,a1)]):=by cases a9<;>kernel_rfl
 obtain⟨T1,h1,h2⟩:=Rd.told aJ aI (fun B=>lO (Rw 24 (TC.ok (Q:=(Rv (ob24))) _) (gQ _))) (fun _ _=>rfl) hraw (hk (bT cc0) (hk (eW (by omega) (by simp at cc0;omega)) (hk (iP (hld0)) (hk (lC hI gbB rfl) (hk (eW (by omega) (by omega)) (hk (eF q2) (hk (a6 _ rfl) hn)))))))
 exact⟨T1,a1,S15,u16,d17,h1,h2,b3,a2,a5,b9.step a7 a4 a8⟩
theorem rBx(r bB rc m i:Nat)(ra:Option Addr){M:aA}(cc0:(decide ((i:Int)<(m:Int)))=false): ∃T1,Rd Try.prog [] (q11.loopAt 0) Try.f11.ntmps (fr [(2,(pt r 0)),(3,(pt bB 0)),(15,(.slice ra m rc)),(16,(i64 (m:Int))),(17,(i64 (i:Int)))]) M (.exit 0) T1 M/\ [2,3].map T1.get= [some (pt r 0),some (pt bB 0)]:=by
 exact Rd.told (tb:=[]) (n:=60) (F:=[aO 2]) aJ aI (aG Try.prog) (fun _ _=>rfl) (by kernel_rfl) (hk (bF cc0) hn)
theorem Wc{r bB C K G R U D n rc:Nat}{ra:Option Addr}{es:List E4}{l:List Int}{ev S:Value}{us ds:List Value}{M0 M:aA}(hM:aB M)(X0:Ext M0 M)(h0:M0.next=G)(hb:cM 53 73 42 22 46 ⟨⟨bB,C,K,G,R,U,D⟩,n,es,ev,S,jT n es l 0,us,ds⟩ M)(hrow:aP l (.slice ra l.length rc) (bP ((⟨bB,C,K,G,R,U,D⟩:BK).hideS S) M))(hes:xV n es)(hl: ∀v∈l,0<=v/\v<n)(hll:l.length<=24)(hn24:n<=24):
  ∃M',bJ Try.prog [] (q11.loopAt 0) Try.f11.ntmps (fr [(2,pt r 0),(3,pt bB 0),(15,.slice ra l.length rc),(16,i64 l.length),(17,i64 ((0:Nat):Int))]) M (.exit 0) (fr [(2,pt r 0),(3,pt bB 0)]) M'/\Ext M0 M'/\aB M'/\ ∃S' us' ds',cM 53 73 42 22 46 ⟨⟨bB,C,K,G,R,U,D⟩,n,es,ev,S',jT n es l l.length,us',ds'⟩ M'/\rF (⟨bB,C,K,G,R,U,D⟩:BK) S M S' M':=by
 obtain⟨⟨S',us',ds'⟩,M',h1,h2,h3,h4,h5⟩:=bJ.for (P:=Try.prog) (GL:= []) (b:=q11.loopAt 0) (nt:=Try.f11.ntmps) (id:=0) (σ:=Value×List Value×List Value) (n:=l.length) (Inv:=fun i σ M1=>Ext M0 M1/\aB M1/\cM 53 73 42 22 46 ⟨⟨bB,C,K,G,R,U,D⟩,n,es,ev,σ.1,jT n es l i,σ.2.1,σ.2.2⟩ M1/\rF (⟨bB,C,K,G,R,U,D⟩:BK) S M σ.1 M1)
  (F:=fun i _=> [(2,pt r 0),(3,pt bB 0),(15,.slice ra l.length rc),(16,i64 l.length),(17,i64 ((i:Nat):Int))])
  (O:=fun _=> [(2,pt r 0),(3,pt bB 0)])
  (by
   rintro i ⟨S1,a2,a0⟩ M1 hi ⟨X1,a3,a1,hF⟩
   simp only at a1 hF
   have a4:aP l (.slice ra l.length rc) M1:=AP.ext (R:=aP) (fun id b hg=>(lG.1 (hF.hids id b hg)).2) hrow
   obtain⟨rb,ro,rfl,_⟩:=cD a4 (by omega)
   have ht:l[i]?=some l[i]:=List.getElem?_eq_getElem hi
   have hv:=hl _ (List.getElem_mem hi)
   have hvn:((l[i].toNat:Nat):Int)=l[i]:=by omega
   have hld:=iC (P:=Try.prog) (ty:=3) a4 ht rfl cO
   have hG:=HG.go hes hl i (by omega)
   have e1:(2:Int)^i<=2^24:=Tf (by omega)
   have e2:(0:Int)<=2^i:=Int.pow_nonneg (by omega)
   have e3:i*(25*n*n)<=24*(25*24*24):=Nat.mul_le_mul (by omega) (Nat.mul_le_mul (Nat.mul_le_mul (Nat.le_refl _) hn24) hn24)
   have e4:n*n*5<=24*24*5:=Nat.mul_le_mul_right _ (Nat.mul_le_mul hn24 hn24)
   have a6:HG n (2147483647*2^i) (n*n*5+i*(25*n*n)) {jT n es l i with rank:=(jT n es l i).rank.set l[i].toNat i}:=⟨hG.hi,hG.len,hG.gone,by rw[List.length_set];exact hG.rank,hG.up,hG.down⟩
   have hok:Wr ⟨⟨bB,C,K,G,R,U,D⟩,n,es,ev,S1,⟨(jT n es l i).b,(jT n es l i).gone,(jT n es l i).rank.set l[i].toNat (i:Int),(jT n es l i).up,(jT n es l i).down⟩,a2,a0⟩ l[i].toNat:=⟨by show n<=60;omega,by show _<n;omega,_,_,a6,by omega,by omega,by omega⟩
   obtain⟨T1,M2,S2,a7,a5,h1,h2,h3,h4,h5,h6⟩:=rBo l[i].toNat r bB C K G R U D n rb ro rc l.length i es ev S1 (jT n es l i).b (jT n es l i).gone (jT n es l i).rank (jT n es l i).up (jT n es l i).down a2 a0 a3 X1 h0 a1 (by omega) hG.rank hok (decide_eq_true (by omega)) (by rw[hvn];exact hld) (by rw[List.length_map,hG.rank];omega)
   rw[aY (by omega)] at h2
   refine⟨(S2,a7,a5),T1,M2,h1,h2,h3,h4,?_,hF.trans h6⟩
   rw[jT,ht]
   exact h5)
  (by
   rintro⟨S1,a2,a0⟩ M1 ⟨X1,a3,a1,hF⟩
   exact rBx r bB rc l.length l.length ra (M:=M1) (decide_eq_false (by omega)))
  l.length 0 (by omega) (s:=(S,us,ds)) (M:=M) ⟨X0,hM,hb,rF.refl _ _ _⟩
 exact⟨M',h1,h2,h3,S',us',ds',h4,h5⟩
theorem rK11:Try.f11.results= #[.cell 2 31]:=by kernel_rfl
theorem hw11(n:Nat)(es:List E4)(ea:Option Addr)(ec:Nat){M:aA}(hM:aB M)(hes:aV es (.slice ea es.length ec) M)(hck:eP (n:Int) es=true)(hn24:1<=n/\n<=24)(hel:es.length<=400)(hoe:xV n es): ∃v_ M',Ev Try.prog [] 11 [.agg ⟨[i64 (n:Int),.slice ea es.length ec]⟩] M v_ M'/\Ext M M'/\aB M'/\fG Wu (Qb (n,es)) M.next v_ M':=by
 obtain⟨b1,M2,i1,i2,g5,E6,j0⟩:=bG hM ⟨[i64 (n:Int),.slice ea es.length ec],26,2,0,true⟩
 have X9:=(Ext.refl M).trans E6
 obtain⟨a0,b7,a8,d1,i3,f5,d9⟩:=bG j0 ⟨[i64 0,cI,cI,cI,cI,cI],31,6,0,true⟩
 have f0:M.next<=a0:=by rw[<-a8];exact X9.next
 have f8:=f5.old g5
 have f6:=X9.trans f5
 obtain⟨Tn,k4,b8,j8,j3,h7,c3,e0,g4⟩:=aH (x:=((n:Int),es)) d9 Pk (⟨_,rfl,_,rfl,AP.Ext (R:=aV) hes f6⟩)
 have d6:=c3.old f8
 have f9:=c3.old i3
 have d2:Tn= .bool true:=(show Tn= .bool (eP (n:Int) es) from g4).trans (congrArg Value.bool hck)
 subst d2
 have d0:=f6.trans c3
 obtain⟨w33,k5,c7,j9,j4,h8,c4,e1,g6⟩:=aH (x:=(n,es)) e0 Zu (⟨⟨_,rfl,_,rfl,AP.Ext (R:=aV) hes d0⟩,hn24,hel⟩)
 have i4:=c4.old d6
 have i5:=c4.old f9
 obtain⟨⟨bB,C,K,G,R,U,D⟩,ev,d3,hids,a4⟩:=g6
 subst d3
 try simp only at a4
 try simp only at hids
 obtain⟨e2a,e2c,eev⟩:=aK.form a4.es
 try simp only at eev
 subst eev
 have nG:M.next<=G:=Nat.le_trans (d0).next (hids G (by simp [BK.ids]))
 have k9:b1<G:=Nat.lt_of_lt_of_le (aA.lt_of_get d6) (hids G (by simp [BK.ids]))
 have j7:a0<G:=Nat.lt_of_lt_of_le (aA.lt_of_get f9) (hids G (by simp [BK.ids]))
 have h0:=d0.trans c4
 obtain⟨f2,g2,a5,e7,f7,e2,j6,b6,e5⟩:=mZ (P:=Try.prog) (o:=ob22) (f:=22) (x:=(⟨⟨bB,C,K,G,R,U,D⟩,n,es,.slice e2a es.length e2c,cI,⟨⟨[],kU n⟩,List.replicate n false,List.replicate n (-1),List.replicate n [],List.replicate n []⟩,List.replicate n cI,List.replicate n cI⟩,())) (l:= [pt bB 0]) e1 h0 (nG) (Nat.le_of_lt a4.gGlt) (⟨rfl,a4,hn24,hoe,hel,rfl⟩) Zv
 have i6:=b6 _ _ i4 (fun e=>by have h9:G<=b1:=a4.own_ge _ e;omega)
 have i7:=b6 _ _ i5 (fun e=>by have h9:G<=a0:=a4.own_ge _ e;omega)
 obtain⟨k7,l0,k8,_,b3,j1,rfl⟩:=e5
 obtain⟨k3,k6,a6,k0,j5,i0,c5,e3,g7⟩:=aH (x:=(n,es)) e2 Zw (⟨⟨_,rfl,_,rfl,AP.Ext (R:=aV) hes f7⟩,hck⟩)
 have i8:=c5.old i7
 have c6:aP (cR n es) k3 (bP [(0,a5.next)] a6):=lI g7
 obtain⟨b9,c0,d4⟩:=aK.form c6
 subst d4
 have hrow:=zU (R:=aP) b3.own_lt (Nat.le_refl _) c6
 have c2:=b3.old (fun id b h=>(c5).old h)
 have e9:=aK.ln c6
 have h1:=f7.trans c5
 obtain⟨c8,d8,h2,e4,g8,k1,h5,a3,d7⟩:=Wc (r:=a0) (M0:=cut G a6) e3 (Ext.cut (Nat.le_of_lt c2.gGlt)) rfl c2 hrow hoe (iO hck) (Nat.le_trans (vA hck) hn24.2) hn24.2
 have h3:=Ext.over (h1) nG (Nat.le_of_lt c2.gGlt) h2
 have i9:=d7.keep _ _ i8 (fun e=>by have h9:G<=a0:=c2.own_ge _ e;omega)
 have hGG:=HG.go hoe (iO hck) (cR n es).length (Nat.le_refl _)
 obtain⟨f3,g3,a7,e8,h4,a9,g0,b4,b2⟩:=mZ (P:=Try.prog) (o:=ob25) (f:=25) (x:=(⟨⟨bB,C,K,G,R,U,D⟩,n,es,.slice e2a es.length e2c,g8,jT n es (cR n es) (cR n es).length,k1,h5⟩,())) (l:= [pt bB 0]) e4 h3 (nG) (Nat.le_of_lt a3.gGlt) (⟨rfl,a3,(by show n<=60;omega),hGG.hi.len,hGG.gone,hGG.up⟩) Zy
 have d5:=b4 _ _ i9 (fun e=>by have h9:G<=a0:=a3.own_ge _ e;omega)
 obtain⟨g9,k2,h6,_,e6,j2,rfl⟩:=b2
 have hbE:cM 53 73 42 22 46 ⟨⟨bB,C,K,G,R,U,D⟩,n,es,.slice e2a es.length e2c,g9,lH n es (cR n es),k2,h6⟩ a7:=e6
 obtain⟨sa,sc,eS,_⟩:=fC.form hbE.acc
 try simp only at eS
 subst eS
 obtain⟨a1,f1,a2,b5,c9,b0,g1⟩:=bH (o:=0) (v:=(.agg ⟨[i64 (n:Int),.slice e2a es.length e2c,aD R 0 n (n+1),.slice sa (lH n es (cR n es)).b.arcs.length sc,aD U 0 n (n+1),aD D 0 n (n+1)]⟩)) (new:= [i64 (n:Int),.slice e2a es.length e2c,aD R 0 n (n+1),.slice sa (lH n es (cR n es)).b.arcs.length sc,aD U 0 n (n+1),aD D 0 n (n+1)]) h4 f0 a9 Pt d5 rfl rfl (Nat.zero_le _) (Nat.le_of_ble_eq_true rfl) rfl
 replace a2:a1.get a0=some ⟨[i64 (n:Int),.slice e2a es.length e2c,aD R 0 n (n+1),.slice sa (lH n es (cR n es)).b.arcs.length sc,aD U 0 n (n+1),aD D 0 n (n+1)],31,6,0,true⟩:=a2
 have c1:=Ek hoe (iO hck) (vA hck) hn24.2
 have hix:Wu (Qb (n,es)) (.agg ⟨[i64 (n:Int),.slice e2a es.length e2c,aD R 0 n (n+1),.slice sa (lH n es (cR n es)).b.arcs.length sc,aD U 0 n (n+1),aD D 0 n (n+1)]⟩) (hid M.next a1):=fG.keep (R:=Wu) nG (fun id b hid hg=>((fun id h _=>b5 id h) id (by omega) (aA.lt_of_get hg)).trans hg) (cM.ix hbE c1.2.1 c1.2.2.1 c1.2.2.2.1 (Nat.le_trans (Nat.le_of_lt c1.1) (by decide)) (by show n<=60;omega))
 have hraw:oT Try.prog [0] 60 Try.f11 q11 [.agg ⟨[i64 (n:Int),.slice ea es.length ec]⟩] M [bL 1 (pt b1 0) M2,bL 3 (pt a0 0) b7,aU 5 (.agg ⟨[i64 (n:Int),.slice ea es.length ec]⟩),bL 7 (.bool true) b8,aU 12 (.agg ⟨[i64 (n:Int),.slice ea es.length ec]⟩),bL 14 (pt bB 0) c7,.at 20 ((bif f2 then 1 else 2),.val g2,a5),aU 22 (.agg ⟨[i64 (n:Int),.slice ea es.length ec]⟩),bL 24 (.slice b9 (cR n es).length c0) a6,aM 26,.blk 29 [2,3,15,16,17] .normal (fr [(2,(pt a0 0)),(3,(pt bB 0))]) c8,.at 33 ((bif f3 then 1 else 2),.val g3,a7),aU 41 (.agg ⟨[i64 (n:Int),.slice e2a es.length e2c,aD R 0 n (n+1),.slice sa (lH n es (cR n es)).b.arcs.length sc,aD U 0 n (n+1),aD D 0 n (n+1)]⟩),lP 43 a1] 2=some (.ret,some (pt a0 0),a1,[.eq (fE Try.prog 26 (.agg ⟨[i64 (n:Int),.slice ea es.length ec]⟩) M) (1,.val (pt b1 0),M2),.eq (dL Try.prog 31 M2) (1,.val (pt a0 0),b7),qL 26 b1 0 b7 (.agg ⟨[i64 (n:Int),.slice ea es.length ec]⟩),qC 20 [.agg ⟨[i64 (n:Int),.slice ea es.length ec]⟩] b7 (.bool true) b8,qL 26 b1 0 b8 (.agg ⟨[i64 (n:Int),.slice ea es.length ec]⟩),qC 21 [.agg ⟨[i64 (n:Int),.slice ea es.length ec]⟩] b8 (pt bB 0) c7,.cl 22 [pt bB 0] c7 ((bif f2 then 1 else 2),.val g2,a5),qL 26 b1 0 a5 (.agg ⟨[i64 (n:Int),.slice ea es.length ec]⟩),qC 23 [.agg ⟨[i64 (n:Int),.slice ea es.length ec]⟩] a5 (.slice b9 (cR n es).length c0) a6,.ln b9 (cR n es).length c0,.blk 0 (.loop (q11.loopAt 0)) Try.f11.ntmps [2,3,15,16,17] [some (pt a0 0),some (pt bB 0),some (.slice b9 (cR n es).length c0),some (i64 (((cR n es).length:Nat):Int)),some (i64 0)] a6 .normal (fr [(2,(pt a0 0)),(3,(pt bB 0))]) c8,.cl 25 [pt bB 0] c8 ((bif f3 then 1 else 2),.val g3,a7),qL 31 bB 0 a7 (.agg ⟨[i64 (n:Int),.slice e2a es.length e2c,aD R 0 n (n+1),.slice sa (lH n es (cR n es)).b.arcs.length sc,aD U 0 n (n+1),aD D 0 n (n+1)]⟩),qS 31 a0 0 (.agg ⟨[i64 (n:Int),.slice e2a es.length e2c,aD R 0 n (n+1),.slice sa (lH n es (cR n es)).b.arcs.length sc,aD U 0 n (n+1),aD D 0 n (n+1)]⟩) a7 a1]):=by cases f2<;>cases f3<;>kernel_rfl
 exact⟨.agg ⟨[i64 (n:Int),.slice e2a es.length e2c,aD R 0 n (n+1),.slice sa (lH n es (cR n es)).b.arcs.length sc,aD U 0 n (n+1),aD D 0 n (n+1)]⟩,a1,Ev.told_cell aJ aI Try.func11 Wy (by kernel_rfl) rK11 (fun B=>zN (gF 20 Q20 (gF 21 Q21 (Rw 22 (TC.ok (Q:=(Rv (ob22))) _) (gF 23 Q23 (Rw 25 (TC.ok (Q:=(Rv (ob25))) _) (gQ _)))))) 0 d8) (fun _ h=>cF h) hraw (lZ (a:=⟨a0,0,none⟩) aAq Pt a2 rfl) (hk (bZ (by rw[<-i1,<-i2];kernel_rfl) Nat.one_ne_zero) (hk (bZ (by rw[<-a8,<-d1];kernel_rfl) Nat.one_ne_zero) (hk (lA ⟨rW,pS⟩ f8 rfl) (hk (aN rfl j8 j3 h7) (hk (lA ⟨rW,pS⟩ d6 rfl) (hk (aN rfl j9 j4 h8) (hk (e7 _ rfl) (hk (lA ⟨rW,pS⟩ i6 rfl) (hk (aN rfl k0 j5 i0) (hk (lN e9) (hk (fH rfl) (hk (e8 _ rfl) (hk (lA ⟨aAq,Pt⟩ hbE.gB rfl) (hk (eF f1) hn)))))))))))))),c9,b0,hix⟩
def okBu(x:Nat×List E4):Prop:=eP (x.1:Int) x.2=true/\x.1<=24
abbrev Q11:=FC (iG (tL jC) okBu) (fG Wu) Qb
theorem Zr{x:Nat×List E4}{lv:List Value}{M:aA}(hM:aB M)(h:(iG (tL jC) okBu) x lv M): ∃v M',lQ Try.prog [] 11 Q11 lv M v M':=by
 refine FC.con h ?_
 obtain⟨⟨g0,rfl,k0⟩,hck,hn⟩:=h
 obtain⟨n,l⟩:=x
 obtain⟨_,rfl,hl⟩:=k0
 obtain⟨a,c,rfl⟩:=aK.form hl
 simp only at hck hn
 obtain⟨s1,s2,s3,s4⟩:=eZ hck
 obtain⟨v,M',h1,h2,_,h3⟩:=hw11 n l a c hM hl hck ⟨by omega,hn⟩ s3 (Gp hck)
 exact⟨v,M',h1,h2,h3⟩
end Go.Proofs.Ytdaglldahidmbaa
