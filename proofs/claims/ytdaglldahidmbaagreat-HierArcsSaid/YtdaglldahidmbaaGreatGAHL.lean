/-
  Package hier: each of its laws for every argument; no conditions. The last text states which.
-/
import Derived.Test.YtdaglldahidmbaaGreatGAHD
import Derived.Test.YtdaglldahidmbaaGreatGAmMk
import Derived.Test.YtdaglldahidmbaaGreatGAmTn
set_option linter.unusedVariables false
set_option linter.unusedSimpArgs false
open Go Go.Am Go.Proofs Tryz
namespace Go.Proofs.YtdaglldahidmbaaGreat
set_option maxRecDepth 100000
theorem rK50:Tryz.f50.results= #[.tmp 2]:=by kernel_rfl
theorem Pr.newE{M M':aB}{n:Nat}{l:List E4}{S:Value}(h:Pr 46 4 M n ((l.map cD).flatten) S M')(hn:n=l.length)(hl:l.length<=9223372036854775807):aS l S (hid M.next M'):=by
 subst hn
 rcases h with⟨b,rfl,h2,h3,h4,h5⟩|⟨b,rfl,h2,h3,h4,h5⟩
 ·rw[List.eq_nil_of_length_eq_zero h2]
  exact aJ.of_blk' (l:=([]:List E4)) (jJ h4 h5) rfl rfl (fun _ h=>by cases h) (by simp)
 ·exact aJ.of_blk' (jJ h4 h5) rfl rfl (fun _ _=>rfl) hl
theorem hw43s(ad:Addr)(ec:Nat)(l:List E4){M:aB}(hM:aA M)(hl:aS l (.slice (some ad) l.length ec) M)(hl4:l.length<=400): ∃v_ M',Ev prog [] 50 [.slice (some ad) l.length ec] M v_ M'/\Ext M M'/\aA M'/\iE aS l M.next v_ M':=by
 obtain⟨b1,M2,a5,a9,g5,E6,b0⟩:=bC hM ⟨[],46,4,0,true⟩
 have b2:M.next<=b1:=by rw[<-a5];exact(Ext.refl M).next
 have X9:=(Ext.refl M).trans E6
 have a7:Pr 46 4 M 0 [] (aC b1 0 0 1) M2:= .inl ⟨b1,rfl,rfl,rfl,b2,g5⟩
 obtain⟨a2,a1,a0,b3,a8,a3,a6⟩:=Rs (P:=prog) (sT:=24) (xT:=24) (y:=32) a7 X9 b0 (by kernel_rfl) (by kernel_rfl) (by kernel_rfl) (by kernel_rfl) (by decide) (by decide) rfl (AP.ext (R:=aS) (fun id b hg=>(X9).old hg) hl) (by omega) (fun _ _=>rfl)
 have a4:oT prog [] 60 Tryz.f50 q50 [.slice (some ad) l.length ec] M [bJ 8 (aC b1 0 0 1) M2,.at 12 ((bif a2 then 1 else 2),.val a1,a0)] 2=some (.ret,some a1,a0,[.eq (bH prog 24 0 [] M) (1,.val (aC b1 0 0 1),M2),.q (.append [24,24] (aC b1 0 0 1) (.slice (some ad) l.length ec) M2) ((bif a2 then 1 else 2),.val a1,a0)]):=by cases a2<;>kernel_rfl
 exact⟨a1,a0,Ev.told_tmp aG aF Tryz.func50 Um (by kernel_rfl) rK50 (aI prog) (fun _ _=>rfl) a4 (hk (bN (by rw[<-a5,<-a9];kernel_rfl) xAc) (hk (kB b3 (by cases a2<;>simp)) hn)),a8,a3,Pr.newE (by simpa using a6) (by simp) (by omega)⟩
theorem hw43n(u0:Unit){M:aB}(hM:aA M): ∃v_ M',Ev prog [] 50 [eW] M v_ M'/\Ext M M'/\aA M'/\v_=eW:=by
 have a0:oT prog [] 60 Tryz.f50 q50 [eW] M [] 2=some (.ret,some eW,M,[]):=by kernel_rfl
 exact⟨eW,M,Ev.told_tmp aG aF Tryz.func50 Um (by kernel_rfl) rK50 (aI prog) (fun _ _=>rfl) a0 hn,Ext.refl M,hM,rfl⟩
abbrev Q50:=FC (gN (sZ aS) fun x=>x.length<=400) (iE aS) id
theorem con50{x:List E4}{lv:List Value}{M:aB}(hM:aA M)(h:(gN (sZ aS) fun x:List E4=>x.length<=400) x lv M): ∃v M',kR prog [] 50 Q50 lv M v M':=by
 refine FC.con h ?_
 obtain⟨⟨g0,rfl,k0⟩,h4⟩:=h
 obtain⟨a,c,rfl⟩:=aJ.form k0
 cases a with
 |none=>
  obtain⟨h1,h2⟩:=aJ.ln k0 rfl
  subst h2
  rw[List.eq_nil_of_length_eq_zero h1] at k0⊢
  obtain⟨v',M',q1,q2,_,rfl⟩:=hw43n () hM
  exact⟨_,M',q1,q2,aJ.nil none⟩
 |some a=>
  obtain⟨v',M',q1,q2,_,q3⟩:=hw43s a c x hM k0 h4
  exact⟨v',M',q1,q2,q3⟩
open Tryz
theorem uU:(prog.underlying 32).map dV=some true:=by kernel_rfl
theorem rR:(prog.info? 32).map (·.size)=some 6:=by kernel_rfl
theorem rK25:Tryz.f25.results= #[.tmp 2]:=by kernel_rfl
def pNB(x:Nat×List E4)(nx:Nat)(v:Value)(M:aB):Prop:= ∃k ev,v=pt k.B 0/\(∀i∈k.ids,nx<=i)/\cW 56 79 42 22 53 ⟨k,x.1,x.2,ev,eW,⟨⟨[],kN x.1⟩,List.replicate x.1 false,List.replicate x.1 (-1),List.replicate x.1 [],List.replicate x.1 []⟩,List.replicate x.1 eW,List.replicate x.1 eW⟩ M
theorem hw21(n:Nat)(es:List E4)(ea:Option Addr)(ec:Nat){M:aB}(hM:aA M)(v2:aS es (.slice ea es.length ec) M)(v1:es.length<=400)(j1:1<=n/\n<=24): ∃v_ M',Ev prog [] 25 [.agg ⟨[i64 (n:Int),.slice ea es.length ec]⟩] M v_ M'/\Ext M M'/\aA M'/\pNB (n,es) M.next v_ M':=by
 obtain⟨b1,M2,u2,u3,g5,E6,u7⟩:=bC hM ⟨[i64 (n:Int),.slice ea es.length ec],26,2,0,true⟩
 have X9:=(Ext.refl M).trans E6
 obtain⟨c3,k7,l4,l5,r9,k1,o9⟩:=tS (P:=prog) (t:=54) (elem:=4) (z:=(.bool false)) (n:=n) u7 (by kernel_rfl) (by kernel_rfl) (by omega)
 have v8:M.next<=c3:=(lQ l4 X9:)
 have w1:=k1.next
 have s0:=k1.old g5
 have r4:=X9.trans k1
 obtain⟨c1,a0,e1,l6,s1,k2,p0⟩:=bC o9 ⟨[i64 0,eW,eW,eW,eW,eW,.pointer none,aC c3 0 n (n+1)],56,8,0,true⟩
 have j7:M.next<=c1:=(lQ e1 r4:)
 have f2:=fJ s0 e1
 have b6:=fJ r9 e1
 have s2:=k2.old s0
 have s3:=k2.old r9
 have e4:=r4.trans k2
 obtain⟨g8,b9⟩:=Jk a0 a0 []
 have r5:=Nk b9 e4
 have p9:g8.log= []:=by rw[b9]
 have t5:g8.next=a0.next:=by rw[b9]
 have p1:=Jl b9 p0
 have a9:=aB.lt_of_get s2
 have o5:=cF b9 s2
 have ltb10M21:=aB.lt_of_get s3
 have s4:=cF b9 s3
 have ltb20M21:=aB.lt_of_get s1
 have s5:=cF b9 s1
 have g6:=congrArg aB.next b9
 dsimp only at g6
 have ltb10M44:=aB.lt_of_get s4
 have ltb20M44:=aB.lt_of_get s5
 obtain⟨x6,x7,a2,w6,v6,r7,h1,p2,t6⟩:=aL (x:=es) p1 con50 (⟨⟨_,rfl,AP.Ext (R:=aS) (AP.log (R:=aS) v2) r5⟩,v1⟩)
 have w2:=h1.next
 have u4:=h1.old o5
 have u5:=h1.old s4
 have u6:=h1.old s5
 have r3:aS es x6 (cI [(0,g8.next)] a2):=kV t6
 obtain⟨e5,e6,l8⟩:=aJ.form r3
 subst l8
 have q1:a2.log= []:=by rw[<-r7];exact p9
 have r6:=r5.trans h1
 obtain⟨k0,a1,f8,h8,s6,h2,p3⟩:=bC p2 ⟨[i64 (-1)],3,1,0,true⟩
 have v9:M.next<=k0:=(lQ f8 r6:)
 have t7:=jK (R:=aS) r3 f8 h2
 have o6:=h2.old u4
 have o7:=h2.old u5
 have o8:=h2.old u6
 have q2:a1.log= []:=by rw[<-h8];exact q1
 have j9:=r6.trans h2
 have h6:(n:Int)=(((n):Nat):Int):=rfl
 have ltb1M74:=aB.lt_of_get o6
 have ltb10M74:=aB.lt_of_get o7
 have ltb20M74:=aB.lt_of_get o8
 have ltb57M74:=aB.lt_of_get s6
 obtain⟨w72,x8,a4,w7,v7,r8,g7,p4,t8⟩:=aL (x:=((),n)) p3 Sn (⟨⟨_,_,rfl,⟨_,rfl,s6⟩,congrArg i64 h6⟩,⟨n,j1,.inl rfl⟩⟩)
 have w3:=g7.next
 have s7:=g7.old o6
 have s8:=g7.old o7
 have s9:=g7.old o8
 obtain⟨c6,l9,g4,i5⟩:=t8
 subst l9
 have d8:c3≠c6:=by have:=aB.lt_of_get o7;omega
 have b7:c1≠c6:=by have:=aB.lt_of_get o8;omega
 have q6:=g4
 have g4:=Nat.le_trans (j9).next g4
 have q3:a4.log= []:=by rw[<-r8];exact q2
 have l1:=j9.trans g7
 have t9:=Wf (R:=aS) t7 q6 g7
 obtain⟨c7,a5,d3,l7,t0,e7,p5,q4⟩:=Tx (P:=prog) (t:=30) (elem:=22) (z:=eW) (n:=n) p4 (by kernel_rfl) (by kernel_rfl) (by omega)
 have w0:M.next<=c7:=(lQ d3 l1:)
 have d9:=fJ s8 d3
 have b8:=fJ s9 d3
 have e0:=fJ i5 d3
 have w4:=e7.next
 have u0:=jK (R:=aS) t9 d3 e7
 have i1:=e7.old s7
 have i2:=e7.old s8
 have i3:=e7.old s9
 have i4:=e7.old i5
 have j3:a5.log= []:=by rw[q4];exact q3
 have e9:=l1.trans e7
 obtain⟨a8,a7,b4,h7,m0,c2,i6,j4⟩:=Tx (P:=prog) (t:=30) (elem:=22) (z:=eW) (n:=n) p5 (by kernel_rfl) (by kernel_rfl) (by omega)
 have t3:M.next<=a8:=(lQ b4 e9:)
 have c8:=fJ i2 b4
 have b0:=fJ i3 b4
 have d1:=fJ i4 b4
 have d2:=fJ t0 b4
 have k3:=jK (R:=aS) u0 b4 c2
 have m1:=c2.old i1
 have m2:=c2.old i2
 have m3:=c2.old i3
 have m4:=c2.old i4
 have m5:=c2.old t0
 have j5:a7.log= []:=by rw[j4];exact j3
 have h3:=e9.trans c2
 obtain⟨a3,q8,m6,b5,h4,i7,j8⟩:=aZ (o:=0) (v:=(.agg ⟨[i64 (n:Int),.slice e5 es.length e6,aC c6 0 n (n+1),eW,aC c7 0 n (n+1),aC a8 0 n (n+1)]⟩)) (new:= [i64 (n:Int),.slice e5 es.length e6,aC c6 0 n (n+1),eW,aC c7 0 n (n+1),aC a8 0 n (n+1),.pointer none,aC c3 0 n (n+1)]) h3 j7 i6 rR m3 rfl rfl (Nat.zero_le _) (xAd rfl) rfl
 have k4:=hQ (R:=aS) k3 (fun id h _=>b5 id h) (by intro id hh;simp only [bR] at hh;omega)
 have m7:=(b5 _ f2).trans m1
 have m8:=(b5 _ b6).trans m2
 have m9:=(b5 _ (Ne.symm b7)).trans m4
 have n0:=(b5 _ (Ne.symm b8)).trans m5
 have n1:=(b5 _ (Ne.symm b0)).trans m0
 have j6:a3.log= [c1]:=by rw[j8,j5]
 obtain⟨d5,a6⟩: ∃m:aB,m=(aB.mk a3.blks a3.next a3.hide (a3.log++a0.log)):=⟨_,rfl⟩
 have k8:Ext M d5:=by rw[a6];exact Ext.join (e4) (h4)
 have i8:aA d5:=by rw[a6];exact i7
 have n2:=cF a6 m7
 have g0:=cF a6 m8
 have g1:=cF a6 m6
 have e2:=cF a6 m9
 have g2:=cF a6 n0
 have g3:=cF a6 n1
 have k5:=gJ (R:=aS) (M':=d5) k4 (fun id b h=>by rw[a6];exact h)
 have e3:=congrArg aB.next a6
 dsimp only at e3
 have ltb71M154:=aB.lt_of_get e2
 obtain⟨x5,u1,e8,q7,p8,l3,c0,i9,k6⟩:=aL (x:=(n,c1)) i8 Zf (⟨⟨_,_,rfl,rfl,rfl⟩,j1⟩)
 have n3:=c0.old g0
 have n4:=c0.old g1
 have n5:=c0.old e2
 have n6:=c0.old g2
 have n7:=c0.old g3
 obtain⟨C2,K2,i0,g9,h0,l2,t1,t2⟩:=k6
 simp only [id] at t1 t2
 subst i0
 have k9:=k8.trans c0
 have f0:c3≠C2:=by have h9:=aB.lt_of_get g0;exact Nat.ne_of_lt (xAf h9 g9)
 have f1:c3≠K2:=by have h9:=aB.lt_of_get g0;exact Nat.ne_of_lt (xAf h9 h0)
 have c9:c1≠C2:=by have h9:=aB.lt_of_get g1;exact Nat.ne_of_lt (xAf h9 g9)
 have d0:c1≠K2:=by have h9:=aB.lt_of_get g1;exact Nat.ne_of_lt (xAf h9 h0)
 have f3:c6≠C2:=by have h9:=aB.lt_of_get e2;exact Nat.ne_of_lt (xAf h9 g9)
 have f4:c6≠K2:=by have h9:=aB.lt_of_get e2;exact Nat.ne_of_lt (xAf h9 h0)
 have f6:c7≠C2:=by have h9:=aB.lt_of_get g2;exact Nat.ne_of_lt (xAf h9 g9)
 have f7:c7≠K2:=by have h9:=aB.lt_of_get g2;exact Nat.ne_of_lt (xAf h9 h0)
 have d6:a8≠C2:=by have h9:=aB.lt_of_get g3;exact Nat.ne_of_lt (xAf h9 g9)
 have d7:a8≠K2:=by have h9:=aB.lt_of_get g3;exact Nat.ne_of_lt (xAf h9 h0)
 obtain⟨c5,r0,n8,b2,l0,j0,t4⟩:=aZ (o:=6) (v:=(pt C2 0)) (new:= [i64 (n:Int),.slice e5 es.length e6,aC c6 0 n (n+1),eW,aC c7 0 n (n+1),aC a8 0 n (n+1),pt C2 0,aC c3 0 n (n+1)]) k9 j7 i9 dS53 n4 rfl rfl (Nat.zero_le _) (xAd rfl) rfl
 have n9:=(b2 _ b6).trans n3
 have o0:=(b2 _ (Ne.symm b7)).trans n5
 have o1:=(b2 _ (Ne.symm b8)).trans n6
 have o2:=(b2 _ (Ne.symm b0)).trans n7
 have o3:=(b2 _ (Ne.symm c9)).trans t1
 have o4:=(b2 _ (Ne.symm d0)).trans t2
 have h5:=l2
 have c4:c1<g8.next:=by first|omega|exact aB.lt_of_get (by assumption)
 have d4:c3<g8.next:=by first|omega|exact aB.lt_of_get (by assumption)
 have p6:aS es (.slice e5 es.length e6) (cI ((⟨c1,C2,K2,c3,c6,c7,a8⟩:BK).hideS eW) c5):=AP.ext (R:=aS) (fun id b hg=>by rw[bV] at hg;simp only [bR,oY,and_true] at hg;obtain⟨⟨v3,v4,v5,x9,j2⟩,p7⟩:=hg;have hl:=aB.lt_of_get p7;rw[mD];exact⟨⟨(Nat.ne_of_gt (xAf c4 (Nat.le_of_not_lt (fun e=>j2 ⟨Nat.zero_le _,e⟩)))),fun e=>by simp only [BK.ids,List.mem_cons,List.not_mem_nil,or_false] at e;rcases e with e|e|e|e|e|e|e<;>first|exact(Nat.ne_of_gt (xAf c4 (Nat.le_of_not_lt (fun e=>j2 ⟨Nat.zero_le _,e⟩)))) e|exact(Nat.ne_of_lt (xAf hl g9)) e|exact(Nat.ne_of_lt (xAf hl h0)) e|exact(Nat.ne_of_gt (xAf d4 (Nat.le_of_not_lt (fun e=>j2 ⟨Nat.zero_le _,e⟩)))) e|exact(Og v5) e|exact(Og v4) e|exact(Og v3) e,Nat.le_of_lt (xAf d4 (Nat.le_of_not_lt (fun e=>j2 ⟨Nat.zero_le _,e⟩)))⟩,((fun id h _=>b2 id h) id (Nat.ne_of_gt (xAf c4 (Nat.le_of_not_lt (fun e=>j2 ⟨Nat.zero_le _,e⟩)))) (aB.lt_of_get (c0.old p7))).trans (c0.old p7)⟩) k5
 have u9:cW 56 79 42 22 53 ⟨(⟨c1,C2,K2,c3,c6,c7,a8⟩:BK),n,es,.slice e5 es.length e6,eW,⟨⟨[],kN n⟩,List.replicate n false,List.replicate n (-1),List.replicate n [],List.replicate n []⟩,List.replicate n eW,List.replicate n eW⟩ c5:=⟨n8,o3,o4,(by rw[List.map_replicate];exact n9),(by rw[List.map_replicate];exact o0),o1,o2,.inl ⟨rfl,rfl⟩,fun i hi=>by simp only [BK.ids,List.mem_cons,List.not_mem_nil,or_false] at hi;rcases hi with e|e|e|e|e|e|e<;>(rw[e];show c3<=_;omega),nd7i c9 d0 (Ne.symm b6) b7 b8 b0 h5 (Ne.symm f0) (Ne.symm f3) (Ne.symm f6) (Ne.symm d6) (Ne.symm f1) (Ne.symm f4) (Ne.symm f7) (Ne.symm d7) d8 d9 c8 e0 d1 d2,p6,Go.Am.fR.none,Go.Am.fR.none⟩
 have b3:oT prog [] 60 Tryz.f25 q25 [.agg ⟨[i64 (n:Int),.slice ea es.length ec]⟩] M [bJ 1 (pt b1 0) M2,aR 7 (i64 (n:Int)),bJ 9 (aC c3 0 n (n+1)) k7,bJ 13 (pt c1 0) a0,aR 21 (i64 (n:Int)),aR 25 (.slice ea es.length ec),bJ 27 (.slice e5 es.length e6) a2,bJ 31 (aC k0 0 1 2) (aB.mk a1.blks a1.next (aV 0 [⟨5,1,a0.next,a2.next⟩,⟨4,1,a0.next,a0.next⟩]++a0.hide) a1.log),aR 35 (i64 (n:Int)),bJ 37 (aC c6 0 n (n+1)) a4,aR 41 (i64 (n:Int)),bJ 43 (aC c7 0 n (n+1)) (aB.mk a5.blks a5.next (aV 6144 [⟨10,1,a1.next,a4.next⟩,⟨7,1,a2.next,a1.next⟩,⟨5,1,a0.next,a2.next⟩,⟨4,1,a0.next,a0.next⟩]++a0.hide) a5.log),aR 47 (i64 (n:Int)),bJ 49 (aC a8 0 n (n+1)) (aB.mk a7.blks a7.next (aV 49152 [⟨13,1,a4.next,a5.next⟩,⟨10,1,a1.next,a4.next⟩,⟨7,1,a2.next,a1.next⟩,⟨5,1,a0.next,a2.next⟩,⟨4,1,a0.next,a0.next⟩]++a0.hide) a7.log),jE 57 a3,aR 63 (i64 (n:Int)),bJ 69 (pt C2 0) e8,jE 75 c5] 2=some (.ret,some (pt c1 0),c5,[.eq (eI prog 26 (.agg ⟨[i64 (n:Int),.slice ea es.length ec]⟩) M) (1,.val (pt b1 0),M2),qL 3 b1 0 M2 (i64 (n:Int)),.eq (bX prog 54 (i64 (n:Int)) (i64 (n:Int)) M2) (1,.val (aC c3 0 n (n+1)),k7),.eq (eI prog 56 (.agg ⟨[i64 0,eW,eW,eW,eW,eW,.pointer none,aC c3 0 n (n+1)]⟩) k7) (1,.val (pt c1 0),a0),qL 3 b1 0 (aB.mk a0.blks a0.next a0.hide []) (i64 (n:Int)),qT (Nat.blt b1 a0.next),qL 24 b1 1 (aB.mk a0.blks a0.next a0.hide []) (.slice ea es.length ec),qC 50 [.slice ea es.length ec] (aB.mk a0.blks a0.next a0.hide []) (.slice e5 es.length e6) a2,.eq (bH prog 22 1 [(0,(i64 (-1)))] (aB.mk a2.blks a2.next (aV 0 [⟨5,1,a0.next,a2.next⟩,⟨4,1,a0.next,a0.next⟩]++a0.hide) a2.log)) (1,.val (aC k0 0 1 2),(aB.mk a1.blks a1.next (aV 0 [⟨5,1,a0.next,a2.next⟩,⟨4,1,a0.next,a0.next⟩]++a0.hide) a1.log)),qL 3 b1 0 (aB.mk (aB.mk a1.blks a1.next (aV 0 [⟨5,1,a0.next,a2.next⟩,⟨4,1,a0.next,a0.next⟩]++a0.hide) a1.log).blks (aB.mk a1.blks a1.next (aV 0 [⟨5,1,a0.next,a2.next⟩,⟨4,1,a0.next,a0.next⟩]++a0.hide) a1.log).next (aV 256 [⟨7,1,a2.next,(aB.mk a1.blks a1.next (aV 0 [⟨5,1,a0.next,a2.next⟩,⟨4,1,a0.next,a0.next⟩]++a0.hide) a1.log).next⟩,⟨5,1,a0.next,a2.next⟩,⟨4,1,a0.next,a0.next⟩]++a0.hide) (aB.mk a1.blks a1.next (aV 0 [⟨5,1,a0.next,a2.next⟩,⟨4,1,a0.next,a0.next⟩]++a0.hide) a1.log).log) (i64 (n:Int)),qT (Nat.blt b1 a0.next),qC 51 [aC k0 0 1 2,i64 (n:Int)] (aB.mk (aB.mk a1.blks a1.next (aV 0 [⟨5,1,a0.next,a2.next⟩,⟨4,1,a0.next,a0.next⟩]++a0.hide) a1.log).blks (aB.mk a1.blks a1.next (aV 0 [⟨5,1,a0.next,a2.next⟩,⟨4,1,a0.next,a0.next⟩]++a0.hide) a1.log).next a0.hide (aB.mk a1.blks a1.next (aV 0 [⟨5,1,a0.next,a2.next⟩,⟨4,1,a0.next,a0.next⟩]++a0.hide) a1.log).log) (aC c6 0 n (n+1)) a4,qL 3 b1 0 (aB.mk a4.blks a4.next (aV 2048 [⟨10,1,(aB.mk a1.blks a1.next (aV 0 [⟨5,1,a0.next,a2.next⟩,⟨4,1,a0.next,a0.next⟩]++a0.hide) a1.log).next,a4.next⟩,⟨7,1,a2.next,(aB.mk a1.blks a1.next (aV 0 [⟨5,1,a0.next,a2.next⟩,⟨4,1,a0.next,a0.next⟩]++a0.hide) a1.log).next⟩,⟨5,1,a0.next,a2.next⟩,⟨4,1,a0.next,a0.next⟩]++a0.hide) a4.log) (i64 (n:Int)),qT (Nat.blt b1 a0.next),.eq (bX prog 30 (i64 (n:Int)) (i64 (n:Int)) (aB.mk a4.blks a4.next (aV 6144 [⟨10,1,(aB.mk a1.blks a1.next (aV 0 [⟨5,1,a0.next,a2.next⟩,⟨4,1,a0.next,a0.next⟩]++a0.hide) a1.log).next,a4.next⟩,⟨7,1,a2.next,(aB.mk a1.blks a1.next (aV 0 [⟨5,1,a0.next,a2.next⟩,⟨4,1,a0.next,a0.next⟩]++a0.hide) a1.log).next⟩,⟨5,1,a0.next,a2.next⟩,⟨4,1,a0.next,a0.next⟩]++a0.hide) a4.log)) (1,.val (aC c7 0 n (n+1)),(aB.mk a5.blks a5.next (aV 6144 [⟨10,1,a1.next,a4.next⟩,⟨7,1,a2.next,a1.next⟩,⟨5,1,a0.next,a2.next⟩,⟨4,1,a0.next,a0.next⟩]++a0.hide) a5.log)),qL 3 b1 0 (aB.mk (aB.mk a5.blks a5.next (aV 6144 [⟨10,1,a1.next,a4.next⟩,⟨7,1,a2.next,a1.next⟩,⟨5,1,a0.next,a2.next⟩,⟨4,1,a0.next,a0.next⟩]++a0.hide) a5.log).blks (aB.mk a5.blks a5.next (aV 6144 [⟨10,1,a1.next,a4.next⟩,⟨7,1,a2.next,a1.next⟩,⟨5,1,a0.next,a2.next⟩,⟨4,1,a0.next,a0.next⟩]++a0.hide) a5.log).next (aV 16384 [⟨13,1,a4.next,(aB.mk a5.blks a5.next (aV 6144 [⟨10,1,a1.next,a4.next⟩,⟨7,1,a2.next,a1.next⟩,⟨5,1,a0.next,a2.next⟩,⟨4,1,a0.next,a0.next⟩]++a0.hide) a5.log).next⟩,⟨10,1,(aB.mk a1.blks a1.next (aV 0 [⟨5,1,a0.next,a2.next⟩,⟨4,1,a0.next,a0.next⟩]++a0.hide) a1.log).next,a4.next⟩,⟨7,1,a2.next,(aB.mk a1.blks a1.next (aV 0 [⟨5,1,a0.next,a2.next⟩,⟨4,1,a0.next,a0.next⟩]++a0.hide) a1.log).next⟩,⟨5,1,a0.next,a2.next⟩,⟨4,1,a0.next,a0.next⟩]++a0.hide) (aB.mk a5.blks a5.next (aV 6144 [⟨10,1,a1.next,a4.next⟩,⟨7,1,a2.next,a1.next⟩,⟨5,1,a0.next,a2.next⟩,⟨4,1,a0.next,a0.next⟩]++a0.hide) a5.log).log) (i64 (n:Int)),qT (Nat.blt b1 a0.next),.eq (bX prog 30 (i64 (n:Int)) (i64 (n:Int)) (aB.mk (aB.mk a5.blks a5.next (aV 6144 [⟨10,1,a1.next,a4.next⟩,⟨7,1,a2.next,a1.next⟩,⟨5,1,a0.next,a2.next⟩,⟨4,1,a0.next,a0.next⟩]++a0.hide) a5.log).blks (aB.mk a5.blks a5.next (aV 6144 [⟨10,1,a1.next,a4.next⟩,⟨7,1,a2.next,a1.next⟩,⟨5,1,a0.next,a2.next⟩,⟨4,1,a0.next,a0.next⟩]++a0.hide) a5.log).next (aV 49152 [⟨13,1,a4.next,(aB.mk a5.blks a5.next (aV 6144 [⟨10,1,a1.next,a4.next⟩,⟨7,1,a2.next,a1.next⟩,⟨5,1,a0.next,a2.next⟩,⟨4,1,a0.next,a0.next⟩]++a0.hide) a5.log).next⟩,⟨10,1,(aB.mk a1.blks a1.next (aV 0 [⟨5,1,a0.next,a2.next⟩,⟨4,1,a0.next,a0.next⟩]++a0.hide) a1.log).next,a4.next⟩,⟨7,1,a2.next,(aB.mk a1.blks a1.next (aV 0 [⟨5,1,a0.next,a2.next⟩,⟨4,1,a0.next,a0.next⟩]++a0.hide) a1.log).next⟩,⟨5,1,a0.next,a2.next⟩,⟨4,1,a0.next,a0.next⟩]++a0.hide) (aB.mk a5.blks a5.next (aV 6144 [⟨10,1,a1.next,a4.next⟩,⟨7,1,a2.next,a1.next⟩,⟨5,1,a0.next,a2.next⟩,⟨4,1,a0.next,a0.next⟩]++a0.hide) a5.log).log)) (1,.val (aC a8 0 n (n+1)),(aB.mk a7.blks a7.next (aV 49152 [⟨13,1,a4.next,a5.next⟩,⟨10,1,a1.next,a4.next⟩,⟨7,1,a2.next,a1.next⟩,⟨5,1,a0.next,a2.next⟩,⟨4,1,a0.next,a0.next⟩]++a0.hide) a7.log)),qS 32 c1 0 (.agg ⟨[i64 (n:Int),.slice e5 es.length e6,aC c6 0 n (n+1),eW,aC c7 0 n (n+1),aC a8 0 n (n+1)]⟩) (aB.mk (aB.mk a7.blks a7.next (aV 49152 [⟨13,1,a4.next,a5.next⟩,⟨10,1,a1.next,a4.next⟩,⟨7,1,a2.next,a1.next⟩,⟨5,1,a0.next,a2.next⟩,⟨4,1,a0.next,a0.next⟩]++a0.hide) a7.log).blks (aB.mk a7.blks a7.next (aV 49152 [⟨13,1,a4.next,a5.next⟩,⟨10,1,a1.next,a4.next⟩,⟨7,1,a2.next,a1.next⟩,⟨5,1,a0.next,a2.next⟩,⟨4,1,a0.next,a0.next⟩]++a0.hide) a7.log).next a0.hide (aB.mk a7.blks a7.next (aV 49152 [⟨13,1,a4.next,a5.next⟩,⟨10,1,a1.next,a4.next⟩,⟨7,1,a2.next,a1.next⟩,⟨5,1,a0.next,a2.next⟩,⟨4,1,a0.next,a0.next⟩]++a0.hide) a7.log).log) a3,qT (cZ [b1,b1,b1,b1] a3.log),qL 3 b1 0 (aB.mk a3.blks a3.next a0.hide (a3.log++a0.log)) (i64 (n:Int)),qC 52 [i64 (n:Int),.func (.func 53) ⟨[pt c1 0]⟩ ⟨[]⟩] (aB.mk a3.blks a3.next a0.hide (a3.log++a0.log)) (pt C2 0) e8,qS 53 c1 6 (pt C2 0) e8 c5]):=by kernel_rfl
 dsimp only at b3
 have w8:aB.mk a0.blks a0.next a0.hide []=g8:=b9.symm
 have x0:=pT ((e4).hide.trans (j9).hide.symm)
 have x1:=Gs 256 [⟨7,1,a2.next,a1.next⟩,⟨5,1,a0.next,a2.next⟩,⟨4,1,a0.next,a0.next⟩] ((e4).hide.trans (j9).hide.symm)
 have x2:=Gs 2048 [⟨10,1,a1.next,a4.next⟩,⟨7,1,a2.next,a1.next⟩,⟨5,1,a0.next,a2.next⟩,⟨4,1,a0.next,a0.next⟩] ((e4).hide.trans (l1).hide.symm)
 have x3:=Gs 16384 [⟨13,1,a4.next,a5.next⟩,⟨10,1,a1.next,a4.next⟩,⟨7,1,a2.next,a1.next⟩,⟨5,1,a0.next,a2.next⟩,⟨4,1,a0.next,a0.next⟩] ((e4).hide.trans (e9).hide.symm)
 have x4:=pT ((e4).hide.trans (h3).hide.symm)
 have r1:=Dr (L:=(a3.log++a0.log)) ((e4).hide.trans (h4).hide.symm)
 have r2:(aB.mk a3.blks a3.next a3.hide (a3.log++a0.log))=d5:=a6.symm
 try rw[w8] at b3
 try rw[x0] at b3
 try rw[x1] at b3
 try rw[x2] at b3
 try rw[x3] at b3
 try rw[x4] at b3
 try rw[r1] at b3
 try rw[r2] at b3
 exact⟨pt c1 0,c5,Ev.told_tmp aG aF Tryz.func25 aAD (by kernel_rfl) rK25 (fun B=>lV (gH 50 Q50 (gH 51 Q51 (gH 52 Q52A (gL _))))) (fun _ _=>rfl) b3 (hk (bN (by rw[<-u2,<-u3];kernel_rfl) xAc) (hk (lC bQ g5 rfl) (hk (bN l5 xAc) (hk (bN (by rw[<-e1,<-l6];kernel_rfl) xAc) (hk (lC bQ o5 rfl) (hk (lG a9) (hk (lC nL o5 rfl) (hk (aK rfl w6 v6 r7) (hk (bN (by rw[<-f8,<-h8];kernel_rfl) xAc) (hk (lC bQ (bV.2 ⟨dC (by simp;omega),o6⟩) rfl) (hk (lG a9) (hk (aK rfl w7 v7 r8) (hk (lC bQ (bV.2 ⟨dC (by simp;omega),s7⟩) rfl) (hk (lG a9) (hk (bN (l7 _) xAc) (hk (lC bQ (bV.2 ⟨dC (by simp;omega),i1⟩) rfl) (hk (lG a9) (hk (bN (h7 _) xAc) (hk (dB q8) (hk (eA (by rw[j6];simp<;>omega)) (hk (lC bQ n2 rfl) (hk (aK rfl q7 p8 l3) (hk (dB r0) hn))))))))))))))))))))))),l0,j0,⟨(⟨c1,C2,K2,c3,c6,c7,a8⟩:BK),_,rfl,fun i hi=>by simp only [BK.ids,List.mem_cons,List.not_mem_nil,or_false] at hi;rcases hi with e|e|e|e|e|e|e<;>(rw[e];omega),u9⟩⟩
open Tryz
instance:AQ pNB:=⟨fun hE ⟨k,ev,h1,h2,h3⟩=>⟨k,ev,h1,h2,h3.old hE⟩⟩
abbrev Q25:=FC (gN (sZ mN) fun x:Nat×List E4=>(1<=x.1/\x.1<=24)/\x.2.length<=400) pNB id
theorem con25{x:Nat×List E4}{lv:List Value}{M:aB}(hM:aA M)(h:(gN (sZ mN) fun x:Nat×List E4=>(1<=x.1/\x.1<=24)/\x.2.length<=400) x lv M): ∃v M',kR prog [] 25 Q25 lv M v M':=by
 refine FC.con h ?_
 obtain⟨⟨g0,rfl,k0⟩,h1,h2⟩:=h
 obtain⟨n,es⟩:=x
 obtain⟨L,rfl,a0⟩:=k0
 obtain⟨ea,ec,rfl⟩:=aJ.form a0
 obtain⟨v,M',q1,q2,_,q3⟩:=hw21 n es ea ec hM a0 h2 h1
 exact⟨v,M',q1,q2,q3⟩
open Tryz
theorem rBo(v r bB C K G R U D n rb ro rc m i:Nat)(es:List E4)(ev S:Value)(s0:HB)(gone:List Bool)(rank:List Int)(up down:List (List Int))(us ds:List Value){M M0:aB}(hM:aA M)(X0:Ext M0 M)(h0:M0.next=G)(hb:cW 56 79 42 22 53 ⟨⟨bB,C,K,G,R,U,D⟩,n,es,ev,S,⟨s0,gone,rank,up,down⟩,us,ds⟩ M)(hv:v<n)(e0:rank.length=n)(d9:aAv ⟨⟨bB,C,K,G,R,U,D⟩,n,es,ev,S,⟨s0,gone,rank.set v (i:Int),up,down⟩,us,ds⟩ v)(b8:(decide ((i:Int)<(m:Int)))=true)(b1:bA prog 3 ⟨rb,ro+((i:Int):Int).toNat*1,none⟩ M=some (i64 (v:Int)))(b2:0+((v:Int):Int).toNat*1+1<=(rank.map i64).length): ∃T1 M' a2 b7 a4,Rd prog [] (q11.loopAt 0) Tryz.f11.ntmps (fr [(2,(pt r 0)),(3,(pt bB 0)),(15,(aC rb ro m rc)),(16,(i64 (m:Int))),(17,(i64 (i:Int)))]) M .normal T1 M'/\ [2,3,15,16,17].map T1.get= [some (pt r 0),some (pt bB 0),some (aC rb ro m rc),some (i64 (m:Int)),some (i64 (IntKind.wrap .i64 ((i:Int)+(1:Int))))]/\Ext M0 M'/\aA M'/\cW 56 79 42 22 53 ⟨⟨bB,C,K,G,R,U,D⟩,n,es,ev,a2,nV n ⟨s0,gone,rank.set v (i:Int),up,down⟩ v,b7,a4⟩ M'/\sI (⟨bB,C,K,G,R,U,D⟩:BK) S M a2 M':=by
 have c0:M.get bB=some ⟨[i64 n,ev,aC R 0 n (n+1),S,aC U 0 n (n+1),aC D 0 n (n+1),pt C 0,aC G 0 n (n+1)],56,8,0,true⟩:=hb.gB
 have gC:M.get C=some ⟨[i64 n,aC K 0 (n*n*5) (n*n*5+1),.func (.func 53) ⟨[pt bB 0]⟩ ⟨[]⟩],79,3,0,true⟩:=hb.gC
 have gK:M.get K=some ⟨s0.cur.map i64,3,1,0,true⟩:=hb.gK
 have gG:M.get G=some ⟨gone.map Value.bool,4,1,0,true⟩:=hb.gG
 have gR:M.get R=some ⟨rank.map i64,3,1,0,true⟩:=hb.gR
 have gU:M.get U=some ⟨us,22,1,0,true⟩:=hb.gU
 have gD:M.get D=some ⟨ds,22,1,0,true⟩:=hb.gD
 have nG:M0.next<=G:=by rw[h0];exact hb.lo G (by simp [BK.ids])
 have nR:M0.next<=R:=by rw[h0];exact hb.lo R (by simp [BK.ids])
 have d8:([bB,C,K,G,R,U,D]:List Nat).Nodup:=hb.nd
 obtain⟨dbBC,dbBK,dbBG,a5,dbBU,dbBD,dCK,dCG,c4,dCU,dCD,dKG,c6,dKU,dKD,c5,dGU,dGD,c8,c7,dUD⟩:=nd7 d8
 have d3:cR 42 7 M0 [bB,C,K,G,R,U,D] s0.arcs.length ((s0.arcs.map bM).flatten) S M:=hb.acc.acc (Nat.le_of_eq h0)
 obtain⟨M1,q2,g3,a0,X5,d5,e1⟩:=aZ (o:=0+((v:Int):Int).toNat*1) (v:=(i64 (i:Int))) (new:=splice (rank.map i64) (0+((v:Int):Int).toNat*1) [i64 (i:Int)]) X0 nR hM Jj gR rfl rfl (Nat.zero_le _) b2 rfl
 have A8:=d3.keep (by simp) (fun id h _=>a0 id h)
 have g9:=(a0 _ a5).trans c0
 have c9:=(a0 _ c4).trans gC
 have d0:=(a0 _ c6).trans gK
 have b9:=(a0 _ c5).trans gG
 have d1:=(a0 _ (Ne.symm c8)).trans gU
 have d2:=(a0 _ (Ne.symm c7)).trans gD
 have c2:=nJ q2
 rw[Go.Am.Wg (by rw[e0];exact hv)] at g3
 have a3: ∀id k,M.get id=some k-> ¬(id=(⟨bB,C,K,G,R,U,D⟩:BK).a S\/id∈ [bB,C,K,G,R,U,D])->M1.get id=some k:=fun id k g hown=>by
  have c1:id∉ [bB,C,K,G,R,U,D]:=fun e=>hown (.inr e)
  simp only [List.mem_cons,List.not_mem_nil,or_false,not_or] at c1
  obtain⟨h_bB,h_C,h_K,h_G,d6,h_U,h_D⟩:=c1
  have g:=((fun id h _=>a0 id h) id d6 (aB.lt_of_get g)).trans g
  exact g
 have d7:cW 56 79 42 22 53 ⟨⟨bB,C,K,G,R,U,D⟩,n,es,ev,S,⟨s0,gone,rank.set v (i:Int),up,down⟩,us,ds⟩ M1:=cW.next (x:=⟨⟨bB,C,K,G,R,U,D⟩,n,es,ev,S,⟨s0,gone,rank,up,down⟩,us,ds⟩) (s:=⟨s0,gone,rank.set v (i:Int),up,down⟩) hb a3 (.inl rfl) g9 c9 d0 b9 g3 d1 d2 (fN.of_acc (A8.less (fun x hx=>hx)) rfl rfl (Nat.le_of_eq h0.symm)) (hb.up.ext (iM (x:=⟨⟨bB,C,K,G,R,U,D⟩,n,es,ev,S,⟨s0,gone,rank,up,down⟩,us,ds⟩) a3 (.inl rfl))) (hb.down.ext (iM (x:=⟨⟨bB,C,K,G,R,U,D⟩,n,es,ev,S,⟨s0,gone,rank,up,down⟩,us,ds⟩) a3 (.inl rfl)))
 obtain⟨b6,Yp,a1,b0,c3,a6,b5,b4,a7⟩:=oD (P:=prog) (o:=ob24) (f:=28) (x:=(⟨⟨bB,C,K,G,R,U,D⟩,n,es,ev,S,⟨s0,gone,rank.set v (i:Int),up,down⟩,us,ds⟩,v)) (l:= [pt bB 0,i64 (v:Int)]) d5 X5 (nG) (Nat.le_of_lt (aB.lt_of_get b9)) (⟨rfl,d7,d9⟩) con28
 obtain⟨a2,b7,a4,_,a9,a8,rfl⟩:=a7
 have d4:sI (⟨bB,C,K,G,R,U,D⟩:BK) S M S M1:=⟨a3,.inl rfl,by omega⟩
 have b3:oR prog [] 60 Tryz.f11 (q11.loopAt 0) [(2,(pt r 0)),(3,(pt bB 0)),(15,(aC rb ro m rc)),(16,(i64 (m:Int))),(17,(i64 (i:Int)))] M [aQ 2,aQ 6,aR 8 (i64 (v:Int)),aR 22 (aC R 0 n (n+1)),aQ 28,jE 30 M1,.at 36 ((bif b6 then 1 else 2),.val Yp,a1)] [2,3,15,16,17]=some (.normal,[some (pt r 0),some (pt bB 0),some (aC rb ro m rc),some (i64 (m:Int)),some (i64 (IntKind.wrap .i64 ((i:Int)+(1:Int))))],a1,[qT (decide ((i:Int)<(m:Int))),.q (.inb (i:Int) m) (eD true),qL 3 rb (ro+((i:Int):Int).toNat*1) M (i64 (v:Int)),qL 22 bB 2 M (aC R 0 n (n+1)),.q (.inb (v:Int) n) (eD true),qS 3 R (0+((v:Int):Int).toNat*1) (i64 (i:Int)) M M1,.cl 28 [pt bB 0,i64 (v:Int)] M1 ((bif b6 then 1 else 2),.val Yp,a1)]):=by cases b6<;>kernel_rfl
 obtain⟨T1,h1,h2⟩:=Rd.told aG aF (fun B=>lV (Vi 28 (TC.ok (Q:=(Vh (ob24))) _) (gL _))) (fun _ _=>rfl) b3 (hk (bT b8) (hk (dE (by omega) (by simp at b8;omega)) (hk (eO (b1)) (hk (lC jW c0 rfl) (hk (dE (by omega) (by omega)) (hk (dB q2) (hk (b0 _ rfl) hn)))))))
 exact⟨T1,a1,a2,b7,a4,h1,h2,c3,a6,a9,d4.step b4 a8 b5⟩
theorem rBx(r bB rc m i:Nat)(ra:Option Addr){M:aB}(a0:(decide ((i:Int)<(m:Int)))=false): ∃T1,Rd prog [] (q11.loopAt 0) Tryz.f11.ntmps (fr [(2,(pt r 0)),(3,(pt bB 0)),(15,(.slice ra m rc)),(16,(i64 (m:Int))),(17,(i64 (i:Int)))]) M (.exit 0) T1 M/\ [2,3].map T1.get= [some (pt r 0),some (pt bB 0)]:=by
 exact Rd.told (tb:=[]) (n:=60) (F:=[aO 2]) aG aF (aI prog) (fun _ _=>rfl) (by kernel_rfl) (hk (bF a0) hn)
theorem aAd{r bB C K G R U D n rc:Nat}{ra:Option Addr}{es:List E4}{l:List Int}{ev S:Value}{us ds:List Value}{M0 M:aB}(hM:aA M)(X0:Ext M0 M)(h0:M0.next=G)(hb:cW 56 79 42 22 53 ⟨⟨bB,C,K,G,R,U,D⟩,n,es,ev,S,cV n es l 0,us,ds⟩ M)(a4:aH l (.slice ra l.length rc) (cI ((⟨bB,C,K,G,R,U,D⟩:BK).hideS S) M))(b1:iQ n es)(hl: ∀v∈l,0<=v/\v<n)(hll:l.length<=24)(a0:n<=24):
  ∃M',bL prog [] (q11.loopAt 0) Tryz.f11.ntmps (fr [(2,pt r 0),(3,pt bB 0),(15,.slice ra l.length rc),(16,i64 l.length),(17,i64 ((0:Nat):Int))]) M (.exit 0) (fr [(2,pt r 0),(3,pt bB 0)]) M'/\Ext M0 M'/\aA M'/\ ∃S' a5 a1,cW 56 79 42 22 53 ⟨⟨bB,C,K,G,R,U,D⟩,n,es,ev,S',cV n es l l.length,a5,a1⟩ M'/\sI (⟨bB,C,K,G,R,U,D⟩:BK) S M S' M':=by
 obtain⟨⟨S',a5,a1⟩,M',h1,h2,h3,h4,h5⟩:=bL.for (P:=prog) (GL:= []) (b:=q11.loopAt 0) (nt:=Tryz.f11.ntmps) (id:=0) (σ:=Value×List Value×List Value) (n:=l.length) (Inv:=fun i σ M1=>Ext M0 M1/\aA M1/\cW 56 79 42 22 53 ⟨⟨bB,C,K,G,R,U,D⟩,n,es,ev,σ.1,cV n es l i,σ.2.1,σ.2.2⟩ M1/\sI (⟨bB,C,K,G,R,U,D⟩:BK) S M σ.1 M1)
  (F:=fun i _=> [(2,pt r 0),(3,pt bB 0),(15,.slice ra l.length rc),(16,i64 l.length),(17,i64 ((i:Nat):Int))])
  (O:=fun _=> [(2,pt r 0),(3,pt bB 0)])
  (by
   rintro i ⟨S1,a6,a2⟩ M1 hi ⟨X1,a7,a3,hF⟩
   simp only at a3 hF
   have a8:aH l (.slice ra l.length rc) M1:=AP.ext (R:=aH) (fun id b hg=>(mD.1 (hF.hids id b hg)).2) a4
   obtain⟨rb,ro,rfl,_⟩:=bU a8 (by omega)
   have ht:l[i]?=some l[i]:=xAe hi
   have hv:=hl _ (List.getElem_mem hi)
   have b4:((l[i].toNat:Nat):Int)=l[i]:=by omega
   have b2:=iX (P:=prog) (ty:=3) a8 ht rfl bQ
   have hG:=HG.go b1 hl i (by omega)
   have e1:(2:Int)^i<=2^24:=Wz (by omega)
   have e2:(0:Int)<=2^i:=Int.pow_nonneg (by omega)
   have e3:i*(25*n*n)<=24*(25*24*24):=Nat.mul_le_mul (by omega) (Nat.mul_le_mul (Nat.mul_le_mul (Nat.le_refl _) a0) a0)
   have e4:n*n*5<=24*24*5:=Nat.mul_le_mul_right _ (Nat.mul_le_mul a0 a0)
   have b0:HG n (2147483647*2^i) (n*n*5+i*(25*n*n)) {cV n es l i with rank:=(cV n es l i).rank.set l[i].toNat i}:=⟨hG.hi,hG.len,hG.gone,by rw[List.length_set];exact hG.rank,hG.up,hG.down⟩
   have b3:aAv ⟨⟨bB,C,K,G,R,U,D⟩,n,es,ev,S1,⟨(cV n es l i).b,(cV n es l i).gone,(cV n es l i).rank.set l[i].toNat (i:Int),(cV n es l i).up,(cV n es l i).down⟩,a6,a2⟩ l[i].toNat:=⟨by show n<=60;omega,by show _<n;omega,_,_,b0,by omega,by omega,by omega⟩
   obtain⟨T1,M2,S2,b5,a9,h1,h2,h3,h4,h5,h6⟩:=rBo l[i].toNat r bB C K G R U D n rb ro rc l.length i es ev S1 (cV n es l i).b (cV n es l i).gone (cV n es l i).rank (cV n es l i).up (cV n es l i).down a6 a2 a7 X1 h0 a3 (by omega) hG.rank b3 (xAb (by omega)) (by rw[b4];exact b2) (by rw[List.length_map,hG.rank];omega)
   rw[bD (by omega)] at h2
   refine⟨(S2,b5,a9),T1,M2,h1,h2,h3,h4,?_,hF.trans h6⟩
   rw[cV,ht]
   exact h5)
  (by
   rintro⟨S1,a6,a2⟩ M1 ⟨X1,a7,a3,hF⟩
   exact rBx r bB rc l.length l.length ra (M:=M1) (xAa (by omega)))
  l.length 0 (by omega) (s:=(S,us,ds)) (M:=M) ⟨X0,hM,hb,sI.refl _ _ _⟩
 exact⟨M',h1,h2,h3,S',a5,a1,h4,h5⟩
open Tryz
theorem rK11:Tryz.f11.results= #[.cell 2 32]:=by kernel_rfl
theorem hw11(n:Nat)(es:List E4)(ea:Option Addr)(ec:Nat){M:aB}(hM:aA M)(f7:aS es (.slice ea es.length ec) M)(a6:fC (n:Int) es=true)(a2:1<=n/\n<=24)(h4:es.length<=400)(c6:iQ n es): ∃v_ M',Ev prog [] 11 [.agg ⟨[i64 (n:Int),.slice ea es.length ec]⟩] M v_ M'/\Ext M M'/\aA M'/\iE pJ (Kt (n,es)) M.next v_ M':=by
 obtain⟨b1,M2,j5,j6,g5,E6,k4⟩:=bC hM ⟨[i64 (n:Int),.slice ea es.length ec],26,2,0,true⟩
 have X9:=(Ext.refl M).trans E6
 obtain⟨a0,c0,b2,d5,j7,g7,e5⟩:=bC k4 ⟨[i64 0,eW,eW,eW,eW,eW],32,6,0,true⟩
 have g2:=lQ b2 X9
 have h1:=g7.old g5
 have g8:=X9.trans g7
 obtain⟨w20,l8,c1,l2,k7,j2,c7,e6,i0⟩:=aL (x:=((n:Int),es)) e5 Sm (⟨_,rfl,_,rfl,AP.Ext (R:=aS) f7 g8⟩)
 have e1:=c7.old h1
 have h2:=c7.old j7
 have d6:w20= .bool true:=(show w20= .bool (fC (n:Int) es) from i0).trans (congrArg Value.bool a6)
 subst d6
 have d4:=g8.trans c7
 obtain⟨w33,l9,d1,l3,k8,j3,c8,e7,i1⟩:=aL (x:=(n,es)) e6 con25 (⟨⟨_,rfl,_,rfl,AP.Ext (R:=aS) f7 d4⟩,a2,h4⟩)
 have j8:=c8.old e1
 have j9:=c8.old h2
 obtain⟨⟨bB,C,K,G,R,U,D⟩,ev,d7,hids,a7⟩:=i1
 subst d7
 try simp only at a7
 try simp only at hids
 obtain⟨a3,a4,h0⟩:=aJ.form a7.es
 try simp only at h0
 subst h0
 have nG:M.next<=G:=Nat.le_trans (d4).next (hids G (by simp [BK.ids]))
 have m3:b1<G:=xAf (aB.lt_of_get e1) (hids G (by simp [BK.ids]))
 have l1:a0<G:=xAf (aB.lt_of_get h2) (hids G (by simp [BK.ids]))
 have i5:=d4.trans c8
 obtain⟨g4,h7,a8,f4,g9,e8,l0,b9,f1⟩:=oD (P:=prog) (o:=ob22) (f:=26) (x:=(⟨⟨bB,C,K,G,R,U,D⟩,n,es,.slice a3 es.length a4,eW,⟨⟨[],kN n⟩,List.replicate n false,List.replicate n (-1),List.replicate n [],List.replicate n []⟩,List.replicate n eW,List.replicate n eW⟩,())) (l:= [pt bB 0]) e7 i5 (nG) (Nat.le_of_lt a7.gGlt) (⟨rfl,a7,a2,c6,h4,rfl⟩) con26
 have k0:=b9 _ _ j8 (fun e=>by have h9:G<=b1:=a7.own_ge _ e;omega)
 have k1:=b9 _ _ j9 (fun e=>by have h9:G<=a0:=a7.own_ge _ e;omega)
 obtain⟨m1,m4,m2,_,b6,k5,rfl⟩:=f1
 obtain⟨l7,m0,a9,l4,k9,j4,c9,e9,i2⟩:=aL (x:=(n,es)) e8 con27 (⟨⟨_,rfl,_,rfl,AP.Ext (R:=aS) f7 g9⟩,a6⟩)
 have k2:=c9.old k1
 have d0:aH (bW n es) l7 (cI [(0,a8.next)] a9):=kV i2
 obtain⟨c2,c3,d8⟩:=aJ.form d0
 subst d8
 have g1:=Br (R:=aH) b6.own_lt (Nat.le_refl _) d0
 have c5:=b6.old (fun id b h=>(c9).old h)
 have f8:=aJ.ln d0
 have i6:=g9.trans c9
 obtain⟨d2,e4,i7,f0,i3,l5,j0,a5,e2⟩:=aAd (r:=a0) (M0:=cut G a9) e9 (Ext.cut (Nat.le_of_lt c5.gGlt)) rfl c5 g1 c6 (iZ a6) (Nat.le_trans (rZ a6) a2.2) a2.2
 have i8:=Ext.over (i6) nG (Nat.le_of_lt c5.gGlt) i7
 have k3:=e2.keep _ _ k2 (fun e=>by have h9:G<=a0:=c5.own_ge _ e;omega)
 have e3:=HG.go c6 (iZ a6) (bW n es).length (Nat.le_refl _)
 obtain⟨g6,h8,b0,f6,i9,b3,h5,b7,b5⟩:=oD (P:=prog) (o:=ob25) (f:=29) (x:=(⟨⟨bB,C,K,G,R,U,D⟩,n,es,.slice a3 es.length a4,i3,cV n es (bW n es) (bW n es).length,l5,j0⟩,())) (l:= [pt bB 0]) f0 i8 (nG) (Nat.le_of_lt a5.gGlt) (⟨rfl,a5,(by show n<=60;omega),e3.hi.len,e3.gone,e3.up⟩) con29
 have d9:=b7 _ _ k3 (fun e=>by have h9:G<=a0:=a5.own_ge _ e;omega)
 obtain⟨i4,l6,j1,_,f2,h3,rfl⟩:=b5
 have f3:cW 56 79 42 22 53 ⟨⟨bB,C,K,G,R,U,D⟩,n,es,.slice a3 es.length a4,i4,iH n es (bW n es),l6,j1⟩ b0:=f2
 obtain⟨sa,sc,eS,_⟩:=fN.form f3.acc
 try simp only at eS
 subst eS
 obtain⟨a1,g3,e0,b8,d3,b4,h6⟩:=aZ (o:=0) (v:=(.agg ⟨[i64 (n:Int),.slice a3 es.length a4,aC R 0 n (n+1),.slice sa (iH n es (bW n es)).b.arcs.length sc,aC U 0 n (n+1),aC D 0 n (n+1)]⟩)) (new:= [i64 (n:Int),.slice a3 es.length a4,aC R 0 n (n+1),.slice sa (iH n es (bW n es)).b.arcs.length sc,aC U 0 n (n+1),aC D 0 n (n+1)]) i9 g2 b3 rR d9 rfl rfl (Nat.zero_le _) (xAd rfl) rfl
 have c4:=zJ c6 (iZ a6) (rZ a6) a2.2
 have k6:pJ (Kt (n,es)) (.agg ⟨[i64 (n:Int),.slice a3 es.length a4,aC R 0 n (n+1),.slice sa (iH n es (bW n es)).b.arcs.length sc,aC U 0 n (n+1),aC D 0 n (n+1)]⟩) (hid M.next a1):=iE.keep (R:=pJ) nG (fun id b hid hg=>((fun id h _=>b8 id h) id (by omega) (aB.lt_of_get hg)).trans hg) (cW.ix f3 c4.2.1 c4.2.2.1 c4.2.2.2.1 (Nat.le_trans (Nat.le_of_lt c4.1) (by decide)) (by show n<=60;omega))
 have g0:oT prog [0] 60 Tryz.f11 q11 [.agg ⟨[i64 (n:Int),.slice ea es.length ec]⟩] M [bJ 1 (pt b1 0) M2,bJ 3 (pt a0 0) c0,aR 5 (.agg ⟨[i64 (n:Int),.slice ea es.length ec]⟩),bJ 7 (.bool true) c1,aR 12 (.agg ⟨[i64 (n:Int),.slice ea es.length ec]⟩),bJ 14 (pt bB 0) d1,.at 20 ((bif g4 then 1 else 2),.val h7,a8),aR 22 (.agg ⟨[i64 (n:Int),.slice ea es.length ec]⟩),bJ 24 (.slice c2 (bW n es).length c3) a9,aQ 26,.blk 29 [2,3,15,16,17] .normal (fr [(2,(pt a0 0)),(3,(pt bB 0))]) d2,.at 33 ((bif g6 then 1 else 2),.val h8,b0),aR 41 (.agg ⟨[i64 (n:Int),.slice a3 es.length a4,aC R 0 n (n+1),.slice sa (iH n es (bW n es)).b.arcs.length sc,aC U 0 n (n+1),aC D 0 n (n+1)]⟩),jE 43 a1] 2=some (.ret,some (pt a0 0),a1,[.eq (eI prog 26 (.agg ⟨[i64 (n:Int),.slice ea es.length ec]⟩) M) (1,.val (pt b1 0),M2),.eq (cM prog 32 M2) (1,.val (pt a0 0),c0),qL 26 b1 0 c0 (.agg ⟨[i64 (n:Int),.slice ea es.length ec]⟩),qC 24 [.agg ⟨[i64 (n:Int),.slice ea es.length ec]⟩] c0 (.bool true) c1,qL 26 b1 0 c1 (.agg ⟨[i64 (n:Int),.slice ea es.length ec]⟩),qC 25 [.agg ⟨[i64 (n:Int),.slice ea es.length ec]⟩] c1 (pt bB 0) d1,.cl 26 [pt bB 0] d1 ((bif g4 then 1 else 2),.val h7,a8),qL 26 b1 0 a8 (.agg ⟨[i64 (n:Int),.slice ea es.length ec]⟩),qC 27 [.agg ⟨[i64 (n:Int),.slice ea es.length ec]⟩] a8 (.slice c2 (bW n es).length c3) a9,.ln c2 (bW n es).length c3,.blk 0 (.loop (q11.loopAt 0)) Tryz.f11.ntmps [2,3,15,16,17] [some (pt a0 0),some (pt bB 0),some (.slice c2 (bW n es).length c3),some (i64 (((bW n es).length:Nat):Int)),some (i64 0)] a9 .normal (fr [(2,(pt a0 0)),(3,(pt bB 0))]) d2,.cl 29 [pt bB 0] d2 ((bif g6 then 1 else 2),.val h8,b0),qL 32 bB 0 b0 (.agg ⟨[i64 (n:Int),.slice a3 es.length a4,aC R 0 n (n+1),.slice sa (iH n es (bW n es)).b.arcs.length sc,aC U 0 n (n+1),aC D 0 n (n+1)]⟩),qS 32 a0 0 (.agg ⟨[i64 (n:Int),.slice a3 es.length a4,aC R 0 n (n+1),.slice sa (iH n es (bW n es)).b.arcs.length sc,aC U 0 n (n+1),aC D 0 n (n+1)]⟩) b0 a1]):=by cases g4<;>cases g6<;>kernel_rfl
 exact⟨.agg ⟨[i64 (n:Int),.slice a3 es.length a4,aC R 0 n (n+1),.slice sa (iH n es (bW n es)).b.arcs.length sc,aC U 0 n (n+1),aC D 0 n (n+1)]⟩,a1,Ev.told_cell aG aF Tryz.func11 aAA (by kernel_rfl) rK11 (fun B=>wR (gH 24 Q24 (gH 25 Q25 (Vi 26 (TC.ok (Q:=(Vh (ob22))) _) (gH 27 Q27 (Vi 29 (TC.ok (Q:=(Vh (ob25))) _) (gL _)))))) 0 e4) (fun _ h=>bZ h) g0 (mR (a:=⟨a0,0,none⟩) uU rR e0 rfl) (hk (bN (by rw[<-j5,<-j6];kernel_rfl) xAc) (hk (bN (by rw[<-b2,<-d5];kernel_rfl) xAc) (hk (lA ⟨zB,uV⟩ h1 rfl) (hk (aK rfl l2 k7 j2) (hk (lA ⟨zB,uV⟩ e1 rfl) (hk (aK rfl l3 k8 j3) (hk (f4 _ rfl) (hk (lA ⟨zB,uV⟩ k0 rfl) (hk (aK rfl l4 k9 j4) (hk (lN f8) (hk (fB rfl) (hk (f6 _ rfl) (hk (lA ⟨uU,rR⟩ f3.gB rfl) (hk (dB g3) hn)))))))))))))),d3,b4,k6⟩
def okBu(x:Nat×List E4):Prop:=fC (x.1:Int) x.2=true/\x.1<=24
abbrev Q11:=FC (gN (sZ mN) okBu) (iE pJ) Kt
theorem con11{x:Nat×List E4}{lv:List Value}{M:aB}(hM:aA M)(h:(gN (sZ mN) okBu) x lv M): ∃v M',kR prog [] 11 Q11 lv M v M':=by
 refine FC.con h ?_
 obtain⟨⟨g0,rfl,k0⟩,a0,hn⟩:=h
 obtain⟨n,l⟩:=x
 obtain⟨_,rfl,hl⟩:=k0
 obtain⟨a,c,rfl⟩:=aJ.form hl
 simp only at a0 hn
 obtain⟨s1,s2,s3,s4⟩:=fY a0
 obtain⟨v,M',h1,h2,_,h3⟩:=hw11 n l a c hM hl a0 ⟨by omega,hn⟩ s3 (rW a0)
 exact⟨v,M',h1,h2,h3⟩
end Go.Proofs.YtdaglldahidmbaaGreat
