/-
  Package hier: each of its laws for every argument; no conditions. The last text states which.
-/
import Derived.Test.YtdaglldahidmbaaGAHD
import Derived.Test.YtdaglldahidmbaaGAmMk
import Derived.Test.YtdaglldahidmbaaGAmTn
set_option linter.unusedVariables false
set_option linter.unusedSimpArgs false
open Go Go.Am Go.Proofs
namespace Go.Proofs.Ytdaglldahidmbaa
set_option maxRecDepth 100000
theorem rK43:Try.f43.results= #[.tmp 2]:=by kernel_rfl
theorem Pm.newE{M M':aA}{n:Nat}{l:List E4}{S:Value}(h:Pm 37 4 M n ((l.map cC).flatten) S M')(hn:n=l.length)(hl:l.length<=9223372036854775807):aU l S (hid M.next M'):=by
 subst hn
 rcases h with⟨b,rfl,h2,h3,h4,h5⟩|⟨b,rfl,h2,h3,h4,h5⟩
 ·rw[List.eq_nil_of_length_eq_zero h2]
  exact aH.of_blk' (l:=([]:List E4)) (jV h4 h5) rfl rfl (fun _ h=>by cases h) (by simp)
 ·exact aH.of_blk' (jV h4 h5) rfl rfl (fun _ _=>rfl) hl
theorem hw43s(ad:Addr)(ec:Nat)(l:List E4){M:aA}(hM:aB M)(hl:aU l (.slice (some ad) l.length ec) M)(hl4:l.length<=400): ∃v_ M',Ev Try.prog [] 43 [.slice (some ad) l.length ec] M v_ M'/\Ext M M'/\aB M'/\iQ aU l M.next v_ M':=by
 obtain⟨b1,M2,a5,a9,g5,E6,b0⟩:=bE hM ⟨[],37,4,0,true⟩
 have b2:M.next<=b1:=by rw[<-a5];exact(Ext.refl M).next
 have X9:=(Ext.refl M).trans E6
 have a7:Pm 37 4 M 0 [] (aC b1 0 0 1) M2:= .inl ⟨b1,rfl,rfl,rfl,b2,g5⟩
 obtain⟨a2,a1,a0,q13,a8,a3,a6⟩:=Rn (P:=Try.prog) (sT:=24) (xT:=24) (y:=32) a7 X9 b0 (by kernel_rfl) (by kernel_rfl) (by kernel_rfl) (by kernel_rfl) (by decide) (by decide) rfl (AP.ext (R:=aU) (fun id b hg=>(X9).old hg) hl) (by omega) (fun _ _=>rfl)
 have a4:oT Try.prog [] 60 Try.f43 q43 [.slice (some ad) l.length ec] M [bK 8 (aC b1 0 0 1) M2,.at 12 ((bif a2 then 1 else 2),.val a1,a0)] 2=some (.ret,some a1,a0,[.eq (bH Try.prog 24 0 [] M) (1,.val (aC b1 0 0 1),M2),.q (.append [24,24] (aC b1 0 0 1) (.slice (some ad) l.length ec) M2) ((bif a2 then 1 else 2),.val a1,a0)]):=by cases a2<;>kernel_rfl
 exact⟨a1,a0,Ev.told_tmp aG aF Try.func43 Ty (by kernel_rfl) rK43 (aI Try.prog) (fun _ _=>rfl) a4 (hk (bP (by rw[<-a5,<-a9];kernel_rfl) Nat.one_ne_zero) (hk (kS q13 (by cases a2<;>simp)) hn)),a8,a3,Pm.newE (by simpa using a6) (by simp) (by omega)⟩
theorem hw43n(u0:Unit){M:aA}(hM:aB M): ∃v_ M',Ev Try.prog [] 43 [eZ] M v_ M'/\Ext M M'/\aB M'/\v_=eZ:=by
 have a0:oT Try.prog [] 60 Try.f43 q43 [eZ] M [] 2=some (.ret,some eZ,M,[]):=by kernel_rfl
 exact⟨eZ,M,Ev.told_tmp aG aF Try.func43 Ty (by kernel_rfl) rK43 (aI Try.prog) (fun _ _=>rfl) a0 hn,Ext.refl M,hM,rfl⟩
abbrev Q43:=FC (hZ (sU aU) fun x=>x.length<=400) (iQ aU) id
theorem con43{x:List E4}{lv:List Value}{M:aA}(hM:aB M)(h:(hZ (sU aU) fun x:List E4=>x.length<=400) x lv M): ∃v M',lM Try.prog [] 43 Q43 lv M v M':=by
 refine FC.con h ?_
 obtain⟨⟨g0,rfl,k0⟩,h4⟩:=h
 obtain⟨a,c,rfl⟩:=aH.form k0
 cases a with
 |none=>
  obtain⟨h1,h2⟩:=aH.ln k0 rfl
  subst h2
  rw[List.eq_nil_of_length_eq_zero h1] at k0⊢
  obtain⟨v',M',q1,q2,_,rfl⟩:=hw43n () hM
  exact⟨_,M',q1,q2,aH.nil none⟩
 |some a=>
  obtain⟨v',M',q1,q2,_,q3⟩:=hw43s a c x hM k0 h4
  exact⟨v',M',q1,q2,q3⟩
theorem yT:(Try.prog.underlying 31).map dR=some true:=by kernel_rfl
theorem uN:(Try.prog.info? 31).map (·.size)=some 6:=by kernel_rfl
theorem rK21:Try.f21.results= #[.tmp 2]:=by kernel_rfl
def pNB(x:Nat×List E4)(nx:Nat)(v:Value)(M:aA):Prop:= ∃k ev,v=pt k.B 0/\(∀i∈k.ids,nx<=i)/\cW 53 73 42 22 46 ⟨k,x.1,x.2,ev,eZ,⟨⟨[],kJ x.1⟩,List.replicate x.1 false,List.replicate x.1 (-1),List.replicate x.1 [],List.replicate x.1 []⟩,List.replicate x.1 eZ,List.replicate x.1 eZ⟩ M
theorem hw21(n:Nat)(es:List E4)(ea:Option Addr)(ec:Nat){M:aA}(hM:aB M)(u9:aU es (.slice ea es.length ec) M)(u7:es.length<=400)(j0:1<=n/\n<=24): ∃v_ M',Ev Try.prog [] 21 [.agg ⟨[i64 (n:Int),.slice ea es.length ec]⟩] M v_ M'/\Ext M M'/\aB M'/\pNB (n,es) M.next v_ M':=by
 obtain⟨b1,M2,u0,u1,g5,E6,u5⟩:=bE hM ⟨[i64 (n:Int),.slice ea es.length ec],26,2,0,true⟩
 have X9:=(Ext.refl M).trans E6
 obtain⟨c3,k6,l3,l4,r7,k0,o8⟩:=sJ (P:=Try.prog) (t:=35) (elem:=4) (z:=(.bool false)) (n:=n) u5 (by kernel_rfl) (by kernel_rfl) (by omega)
 have v6:M.next<=c3:=(mG l3 X9:)
 have v9:=k0.next
 have r8:=k0.old g5
 have r2:=X9.trans k0
 obtain⟨c1,a0,e1,l5,r9,k1,o9⟩:=bE o8 ⟨[i64 0,eZ,eZ,eZ,eZ,eZ,.pointer none,aC c3 0 n (n+1)],53,8,0,true⟩
 have j6:M.next<=c1:=(mG e1 r2:)
 have f2:=fL r8 e1
 have b6:=fL r7 e1
 have s0:=k1.old r8
 have s1:=k1.old r7
 have e4:=r2.trans k1
 obtain⟨g7,b9⟩:=Kz a0 a0 []
 have r3:=Ow b9 e4
 have p8:g7.log= []:=by rw[b9]
 have t3:g7.next=a0.next:=by rw[b9]
 have p0:=Lg b9 o9
 have a9:=aA.lt_of_get s0
 have o4:=cG b9 s0
 have ltb10M21:=aA.lt_of_get s1
 have s2:=cG b9 s1
 have ltb20M21:=aA.lt_of_get r9
 have s3:=cG b9 r9
 have g4:=congrArg aA.next b9
 dsimp only at g4
 have ltb10M44:=aA.lt_of_get s2
 have ltb20M44:=aA.lt_of_get s3
 obtain⟨x4,x5,a2,w4,v4,r5,h0,p1,t4⟩:=aM (x:=es) p0 con43 (⟨⟨_,rfl,AP.Ext (R:=aU) (AP.log (R:=aU) u9) r3⟩,u7⟩)
 have w0:=h0.next
 have u2:=h0.old o4
 have u3:=h0.old s2
 have u4:=h0.old s3
 have r1:aU es x4 (cK [(0,g7.next)] a2):=lY t4
 obtain⟨e5,e6,l7⟩:=aH.form r1
 subst l7
 have p9:a2.log= []:=by rw[<-r5];exact p8
 have r4:=r3.trans h0
 obtain⟨j9,a1,f8,h7,s4,h1,p2⟩:=bE p1 ⟨[i64 (-1)],3,1,0,true⟩
 have v7:M.next<=j9:=(mG f8 r4:)
 have t5:=jH (R:=aU) r1 f8 h1
 have o5:=h1.old u2
 have o6:=h1.old u3
 have o7:=h1.old u4
 have q1:a1.log= []:=by rw[<-h7];exact p9
 have j8:=r4.trans h1
 have h5:(n:Int)=(((n):Nat):Int):=rfl
 have ltb1M74:=aA.lt_of_get o5
 have ltb10M74:=aA.lt_of_get o6
 have ltb20M74:=aA.lt_of_get o7
 have ltb57M74:=aA.lt_of_get s4
 obtain⟨w72,x6,a4,w5,v5,r6,g6,p3,t6⟩:=aM (x:=((),n)) p2 Sf (⟨⟨_,_,rfl,⟨_,rfl,s4⟩,congrArg i64 h5⟩,⟨n,j0,.inl rfl⟩⟩)
 have w1:=g6.next
 have s5:=g6.old o5
 have s6:=g6.old o6
 have s7:=g6.old o7
 obtain⟨c6,l8,g3,i4⟩:=t6
 subst l8
 have d8:c3≠c6:=by have:=aA.lt_of_get o6;omega
 have b7:c1≠c6:=by have:=aA.lt_of_get o7;omega
 have q5:=g3
 have g3:=Nat.le_trans (j8).next g3
 have q2:a4.log= []:=by rw[<-r6];exact q1
 have l0:=j8.trans g6
 have t7:=Vt (R:=aU) t5 q5 g6
 obtain⟨c7,a5,d3,l6,s8,e7,p4,q4⟩:=Tk (P:=Try.prog) (t:=29) (elem:=22) (z:=eZ) (n:=n) p3 (by kernel_rfl) (by kernel_rfl) (by omega)
 have v8:M.next<=c7:=(mG d3 l0:)
 have d9:=fL s6 d3
 have b8:=fL s7 d3
 have e0:=fL i4 d3
 have w2:=e7.next
 have t8:=jH (R:=aU) t7 d3 e7
 have i0:=e7.old s5
 have i1:=e7.old s6
 have i2:=e7.old s7
 have i3:=e7.old i4
 have j2:a5.log= []:=by rw[q4];exact q2
 have e9:=l0.trans e7
 obtain⟨a8,a7,b4,h6,l9,c2,i5,j3⟩:=Tk (P:=Try.prog) (t:=29) (elem:=22) (z:=eZ) (n:=n) p4 (by kernel_rfl) (by kernel_rfl) (by omega)
 have t1:M.next<=a8:=(mG b4 e9:)
 have c8:=fL i1 b4
 have b0:=fL i2 b4
 have d1:=fL i3 b4
 have d2:=fL s8 b4
 have k2:=jH (R:=aU) t8 b4 c2
 have m0:=c2.old i0
 have m1:=c2.old i1
 have m2:=c2.old i2
 have m3:=c2.old i3
 have m4:=c2.old s8
 have j4:a7.log= []:=by rw[j3];exact j2
 have h2:=e9.trans c2
 obtain⟨a3,q7,m5,b5,h3,i6,j7⟩:=aZ (o:=0) (v:=(.agg ⟨[i64 (n:Int),.slice e5 es.length e6,aC c6 0 n (n+1),eZ,aC c7 0 n (n+1),aC a8 0 n (n+1)]⟩)) (new:= [i64 (n:Int),.slice e5 es.length e6,aC c6 0 n (n+1),eZ,aC c7 0 n (n+1),aC a8 0 n (n+1),.pointer none,aC c3 0 n (n+1)]) h2 j6 i5 uN m2 rfl rfl (Nat.zero_le _) (Nat.le_of_ble_eq_true rfl) rfl
 have k3:=hJ (R:=aU) k2 (fun id h _=>b5 id h) (by intro id hh;simp only [bQ] at hh;omega)
 have m6:=(b5 _ f2).trans m0
 have m7:=(b5 _ b6).trans m1
 have m8:=(b5 _ (Ne.symm b7)).trans m3
 have m9:=(b5 _ (Ne.symm b8)).trans m4
 have n0:=(b5 _ (Ne.symm b0)).trans l9
 have j5:a3.log= [c1]:=by rw[j7,j4]
 obtain⟨d5,a6⟩: ∃m:aA,m=(aA.mk a3.blks a3.next a3.hide (a3.log++a0.log)):=⟨_,rfl⟩
 have k7:Ext M d5:=by rw[a6];exact Ext.join (e4) (h3)
 have i7:aB d5:=by rw[a6];exact i6
 have n1:=cG a6 m6
 have f9:=cG a6 m7
 have g0:=cG a6 m5
 have e2:=cG a6 m8
 have g1:=cG a6 m9
 have g2:=cG a6 n0
 have k4:=gI (R:=aU) (M':=d5) k3 (fun id b h=>by rw[a6];exact h)
 have e3:=congrArg aA.next a6
 dsimp only at e3
 have ltb71M154:=aA.lt_of_get e2
 obtain⟨x3,t9,e8,q6,p7,l2,c0,i8,k5⟩:=aM (x:=(n,c1)) i7 Yl (⟨⟨_,_,rfl,rfl,rfl⟩,j0⟩)
 have n2:=c0.old f9
 have n3:=c0.old g0
 have n4:=c0.old e2
 have n5:=c0.old g1
 have n6:=c0.old g2
 obtain⟨C2,K2,h8,g8,g9,l1,s9,t0⟩:=k5
 simp only [id] at s9 t0
 subst h8
 have k8:=k7.trans c0
 have f0:c3≠C2:=by have h9:=aA.lt_of_get f9;exact Nat.ne_of_lt (Nat.lt_of_lt_of_le h9 g8)
 have f1:c3≠K2:=by have h9:=aA.lt_of_get f9;exact Nat.ne_of_lt (Nat.lt_of_lt_of_le h9 g9)
 have c9:c1≠C2:=by have h9:=aA.lt_of_get g0;exact Nat.ne_of_lt (Nat.lt_of_lt_of_le h9 g8)
 have d0:c1≠K2:=by have h9:=aA.lt_of_get g0;exact Nat.ne_of_lt (Nat.lt_of_lt_of_le h9 g9)
 have f4:c6≠C2:=by have h9:=aA.lt_of_get e2;exact Nat.ne_of_lt (Nat.lt_of_lt_of_le h9 g8)
 have f5:c6≠K2:=by have h9:=aA.lt_of_get e2;exact Nat.ne_of_lt (Nat.lt_of_lt_of_le h9 g9)
 have f6:c7≠C2:=by have h9:=aA.lt_of_get g1;exact Nat.ne_of_lt (Nat.lt_of_lt_of_le h9 g8)
 have f7:c7≠K2:=by have h9:=aA.lt_of_get g1;exact Nat.ne_of_lt (Nat.lt_of_lt_of_le h9 g9)
 have d6:a8≠C2:=by have h9:=aA.lt_of_get g2;exact Nat.ne_of_lt (Nat.lt_of_lt_of_le h9 g8)
 have d7:a8≠K2:=by have h9:=aA.lt_of_get g2;exact Nat.ne_of_lt (Nat.lt_of_lt_of_le h9 g9)
 obtain⟨c5,q8,n7,b2,k9,i9,t2⟩:=aZ (o:=6) (v:=(pt C2 0)) (new:= [i64 (n:Int),.slice e5 es.length e6,aC c6 0 n (n+1),eZ,aC c7 0 n (n+1),aC a8 0 n (n+1),pt C2 0,aC c3 0 n (n+1)]) k8 j6 i8 dS51 n3 rfl rfl (Nat.zero_le _) (Nat.le_of_ble_eq_true rfl) rfl
 have n8:=(b2 _ b6).trans n2
 have n9:=(b2 _ (Ne.symm b7)).trans n4
 have o0:=(b2 _ (Ne.symm b8)).trans n5
 have o1:=(b2 _ (Ne.symm b0)).trans n6
 have o2:=(b2 _ (Ne.symm c9)).trans s9
 have o3:=(b2 _ (Ne.symm d0)).trans t0
 have h4:=l1
 have c4:c1<g7.next:=by first|omega|exact aA.lt_of_get (by assumption)
 have d4:c3<g7.next:=by first|omega|exact aA.lt_of_get (by assumption)
 have p5:aU es (.slice e5 es.length e6) (cK ((⟨c1,C2,K2,c3,c6,c7,a8⟩:BK).hideS eZ) c5):=AP.ext (R:=aU) (fun id b hg=>by rw[cB] at hg;simp only [bQ,oV,and_true] at hg;obtain⟨⟨v1,v2,v3,x7,j1⟩,p6⟩:=hg;have hl:=aA.lt_of_get p6;rw[lX];exact⟨⟨(Nat.ne_of_gt (Nat.lt_of_lt_of_le c4 (Nat.le_of_not_lt (fun e=>j1 ⟨Nat.zero_le _,e⟩)))),fun e=>by simp only [BK.ids,List.mem_cons,List.not_mem_nil,or_false] at e;rcases e with e|e|e|e|e|e|e<;>first|exact(Nat.ne_of_gt (Nat.lt_of_lt_of_le c4 (Nat.le_of_not_lt (fun e=>j1 ⟨Nat.zero_le _,e⟩)))) e|exact(Nat.ne_of_lt (Nat.lt_of_lt_of_le hl g8)) e|exact(Nat.ne_of_lt (Nat.lt_of_lt_of_le hl g9)) e|exact(Nat.ne_of_gt (Nat.lt_of_lt_of_le d4 (Nat.le_of_not_lt (fun e=>j1 ⟨Nat.zero_le _,e⟩)))) e|exact(Nz v3) e|exact(Nz v2) e|exact(Nz v1) e,Nat.le_of_lt (Nat.lt_of_lt_of_le d4 (Nat.le_of_not_lt (fun e=>j1 ⟨Nat.zero_le _,e⟩)))⟩,((fun id h _=>b2 id h) id (Nat.ne_of_gt (Nat.lt_of_lt_of_le c4 (Nat.le_of_not_lt (fun e=>j1 ⟨Nat.zero_le _,e⟩)))) (aA.lt_of_get (c0.old p6))).trans (c0.old p6)⟩) k4
 have u6:cW 53 73 42 22 46 ⟨(⟨c1,C2,K2,c3,c6,c7,a8⟩:BK),n,es,.slice e5 es.length e6,eZ,⟨⟨[],kJ n⟩,List.replicate n false,List.replicate n (-1),List.replicate n [],List.replicate n []⟩,List.replicate n eZ,List.replicate n eZ⟩ c5:=⟨n7,o2,o3,(by rw[List.map_replicate];exact n8),(by rw[List.map_replicate];exact n9),o0,o1,.inl ⟨rfl,rfl⟩,fun i hi=>by simp only [BK.ids,List.mem_cons,List.not_mem_nil,or_false] at hi;rcases hi with e|e|e|e|e|e|e<;>(rw[e];show c3<=_;omega),nd7i c9 d0 (Ne.symm b6) b7 b8 b0 h4 (Ne.symm f0) (Ne.symm f4) (Ne.symm f6) (Ne.symm d6) (Ne.symm f1) (Ne.symm f5) (Ne.symm f7) (Ne.symm d7) d8 d9 c8 e0 d1 d2,p5,Go.Am.fS.none,Go.Am.fS.none⟩
 have b3:oT Try.prog [] 60 Try.f21 Uw [.agg ⟨[i64 (n:Int),.slice ea es.length ec]⟩] M [bK 1 (pt b1 0) M2,aR 7 (i64 (n:Int)),bK 9 (aC c3 0 n (n+1)) k6,bK 13 (pt c1 0) a0,aR 21 (i64 (n:Int)),aR 25 (.slice ea es.length ec),bK 27 (.slice e5 es.length e6) a2,bK 31 (aC j9 0 1 2) (aA.mk a1.blks a1.next (aV 0 [⟨5,1,a0.next,a2.next⟩,⟨4,1,a0.next,a0.next⟩]++a0.hide) a1.log),aR 35 (i64 (n:Int)),bK 37 (aC c6 0 n (n+1)) a4,aR 41 (i64 (n:Int)),bK 43 (aC c7 0 n (n+1)) (aA.mk a5.blks a5.next (aV 6144 [⟨10,1,a1.next,a4.next⟩,⟨7,1,a2.next,a1.next⟩,⟨5,1,a0.next,a2.next⟩,⟨4,1,a0.next,a0.next⟩]++a0.hide) a5.log),aR 47 (i64 (n:Int)),bK 49 (aC a8 0 n (n+1)) (aA.mk a7.blks a7.next (aV 49152 [⟨13,1,a4.next,a5.next⟩,⟨10,1,a1.next,a4.next⟩,⟨7,1,a2.next,a1.next⟩,⟨5,1,a0.next,a2.next⟩,⟨4,1,a0.next,a0.next⟩]++a0.hide) a7.log),jJ 57 a3,aR 63 (i64 (n:Int)),bK 69 (pt C2 0) e8,jJ 75 c5] 2=some (.ret,some (pt c1 0),c5,[.eq (eL Try.prog 26 (.agg ⟨[i64 (n:Int),.slice ea es.length ec]⟩) M) (1,.val (pt b1 0),M2),qL 3 b1 0 M2 (i64 (n:Int)),.eq (bU Try.prog 35 (i64 (n:Int)) (i64 (n:Int)) M2) (1,.val (aC c3 0 n (n+1)),k6),.eq (eL Try.prog 53 (.agg ⟨[i64 0,eZ,eZ,eZ,eZ,eZ,.pointer none,aC c3 0 n (n+1)]⟩) k6) (1,.val (pt c1 0),a0),qL 3 b1 0 (aA.mk a0.blks a0.next a0.hide []) (i64 (n:Int)),qT (Nat.blt b1 a0.next),qL 24 b1 1 (aA.mk a0.blks a0.next a0.hide []) (.slice ea es.length ec),qC 43 [.slice ea es.length ec] (aA.mk a0.blks a0.next a0.hide []) (.slice e5 es.length e6) a2,.eq (bH Try.prog 22 1 [(0,(i64 (-1)))] (aA.mk a2.blks a2.next (aV 0 [⟨5,1,a0.next,a2.next⟩,⟨4,1,a0.next,a0.next⟩]++a0.hide) a2.log)) (1,.val (aC j9 0 1 2),(aA.mk a1.blks a1.next (aV 0 [⟨5,1,a0.next,a2.next⟩,⟨4,1,a0.next,a0.next⟩]++a0.hide) a1.log)),qL 3 b1 0 (aA.mk (aA.mk a1.blks a1.next (aV 0 [⟨5,1,a0.next,a2.next⟩,⟨4,1,a0.next,a0.next⟩]++a0.hide) a1.log).blks (aA.mk a1.blks a1.next (aV 0 [⟨5,1,a0.next,a2.next⟩,⟨4,1,a0.next,a0.next⟩]++a0.hide) a1.log).next (aV 256 [⟨7,1,a2.next,(aA.mk a1.blks a1.next (aV 0 [⟨5,1,a0.next,a2.next⟩,⟨4,1,a0.next,a0.next⟩]++a0.hide) a1.log).next⟩,⟨5,1,a0.next,a2.next⟩,⟨4,1,a0.next,a0.next⟩]++a0.hide) (aA.mk a1.blks a1.next (aV 0 [⟨5,1,a0.next,a2.next⟩,⟨4,1,a0.next,a0.next⟩]++a0.hide) a1.log).log) (i64 (n:Int)),qT (Nat.blt b1 a0.next),qC 44 [aC j9 0 1 2,i64 (n:Int)] (aA.mk (aA.mk a1.blks a1.next (aV 0 [⟨5,1,a0.next,a2.next⟩,⟨4,1,a0.next,a0.next⟩]++a0.hide) a1.log).blks (aA.mk a1.blks a1.next (aV 0 [⟨5,1,a0.next,a2.next⟩,⟨4,1,a0.next,a0.next⟩]++a0.hide) a1.log).next a0.hide (aA.mk a1.blks a1.next (aV 0 [⟨5,1,a0.next,a2.next⟩,⟨4,1,a0.next,a0.next⟩]++a0.hide) a1.log).log) (aC c6 0 n (n+1)) a4,qL 3 b1 0 (aA.mk a4.blks a4.next (aV 2048 [⟨10,1,(aA.mk a1.blks a1.next (aV 0 [⟨5,1,a0.next,a2.next⟩,⟨4,1,a0.next,a0.next⟩]++a0.hide) a1.log).next,a4.next⟩,⟨7,1,a2.next,(aA.mk a1.blks a1.next (aV 0 [⟨5,1,a0.next,a2.next⟩,⟨4,1,a0.next,a0.next⟩]++a0.hide) a1.log).next⟩,⟨5,1,a0.next,a2.next⟩,⟨4,1,a0.next,a0.next⟩]++a0.hide) a4.log) (i64 (n:Int)),qT (Nat.blt b1 a0.next),.eq (bU Try.prog 29 (i64 (n:Int)) (i64 (n:Int)) (aA.mk a4.blks a4.next (aV 6144 [⟨10,1,(aA.mk a1.blks a1.next (aV 0 [⟨5,1,a0.next,a2.next⟩,⟨4,1,a0.next,a0.next⟩]++a0.hide) a1.log).next,a4.next⟩,⟨7,1,a2.next,(aA.mk a1.blks a1.next (aV 0 [⟨5,1,a0.next,a2.next⟩,⟨4,1,a0.next,a0.next⟩]++a0.hide) a1.log).next⟩,⟨5,1,a0.next,a2.next⟩,⟨4,1,a0.next,a0.next⟩]++a0.hide) a4.log)) (1,.val (aC c7 0 n (n+1)),(aA.mk a5.blks a5.next (aV 6144 [⟨10,1,a1.next,a4.next⟩,⟨7,1,a2.next,a1.next⟩,⟨5,1,a0.next,a2.next⟩,⟨4,1,a0.next,a0.next⟩]++a0.hide) a5.log)),qL 3 b1 0 (aA.mk (aA.mk a5.blks a5.next (aV 6144 [⟨10,1,a1.next,a4.next⟩,⟨7,1,a2.next,a1.next⟩,⟨5,1,a0.next,a2.next⟩,⟨4,1,a0.next,a0.next⟩]++a0.hide) a5.log).blks (aA.mk a5.blks a5.next (aV 6144 [⟨10,1,a1.next,a4.next⟩,⟨7,1,a2.next,a1.next⟩,⟨5,1,a0.next,a2.next⟩,⟨4,1,a0.next,a0.next⟩]++a0.hide) a5.log).next (aV 16384 [⟨13,1,a4.next,(aA.mk a5.blks a5.next (aV 6144 [⟨10,1,a1.next,a4.next⟩,⟨7,1,a2.next,a1.next⟩,⟨5,1,a0.next,a2.next⟩,⟨4,1,a0.next,a0.next⟩]++a0.hide) a5.log).next⟩,⟨10,1,(aA.mk a1.blks a1.next (aV 0 [⟨5,1,a0.next,a2.next⟩,⟨4,1,a0.next,a0.next⟩]++a0.hide) a1.log).next,a4.next⟩,⟨7,1,a2.next,(aA.mk a1.blks a1.next (aV 0 [⟨5,1,a0.next,a2.next⟩,⟨4,1,a0.next,a0.next⟩]++a0.hide) a1.log).next⟩,⟨5,1,a0.next,a2.next⟩,⟨4,1,a0.next,a0.next⟩]++a0.hide) (aA.mk a5.blks a5.next (aV 6144 [⟨10,1,a1.next,a4.next⟩,⟨7,1,a2.next,a1.next⟩,⟨5,1,a0.next,a2.next⟩,⟨4,1,a0.next,a0.next⟩]++a0.hide) a5.log).log) (i64 (n:Int)),qT (Nat.blt b1 a0.next),.eq (bU Try.prog 29 (i64 (n:Int)) (i64 (n:Int)) (aA.mk (aA.mk a5.blks a5.next (aV 6144 [⟨10,1,a1.next,a4.next⟩,⟨7,1,a2.next,a1.next⟩,⟨5,1,a0.next,a2.next⟩,⟨4,1,a0.next,a0.next⟩]++a0.hide) a5.log).blks (aA.mk a5.blks a5.next (aV 6144 [⟨10,1,a1.next,a4.next⟩,⟨7,1,a2.next,a1.next⟩,⟨5,1,a0.next,a2.next⟩,⟨4,1,a0.next,a0.next⟩]++a0.hide) a5.log).next (aV 49152 [⟨13,1,a4.next,(aA.mk a5.blks a5.next (aV 6144 [⟨10,1,a1.next,a4.next⟩,⟨7,1,a2.next,a1.next⟩,⟨5,1,a0.next,a2.next⟩,⟨4,1,a0.next,a0.next⟩]++a0.hide) a5.log).next⟩,⟨10,1,(aA.mk a1.blks a1.next (aV 0 [⟨5,1,a0.next,a2.next⟩,⟨4,1,a0.next,a0.next⟩]++a0.hide) a1.log).next,a4.next⟩,⟨7,1,a2.next,(aA.mk a1.blks a1.next (aV 0 [⟨5,1,a0.next,a2.next⟩,⟨4,1,a0.next,a0.next⟩]++a0.hide) a1.log).next⟩,⟨5,1,a0.next,a2.next⟩,⟨4,1,a0.next,a0.next⟩]++a0.hide) (aA.mk a5.blks a5.next (aV 6144 [⟨10,1,a1.next,a4.next⟩,⟨7,1,a2.next,a1.next⟩,⟨5,1,a0.next,a2.next⟩,⟨4,1,a0.next,a0.next⟩]++a0.hide) a5.log).log)) (1,.val (aC a8 0 n (n+1)),(aA.mk a7.blks a7.next (aV 49152 [⟨13,1,a4.next,a5.next⟩,⟨10,1,a1.next,a4.next⟩,⟨7,1,a2.next,a1.next⟩,⟨5,1,a0.next,a2.next⟩,⟨4,1,a0.next,a0.next⟩]++a0.hide) a7.log)),qS 31 c1 0 (.agg ⟨[i64 (n:Int),.slice e5 es.length e6,aC c6 0 n (n+1),eZ,aC c7 0 n (n+1),aC a8 0 n (n+1)]⟩) (aA.mk (aA.mk a7.blks a7.next (aV 49152 [⟨13,1,a4.next,a5.next⟩,⟨10,1,a1.next,a4.next⟩,⟨7,1,a2.next,a1.next⟩,⟨5,1,a0.next,a2.next⟩,⟨4,1,a0.next,a0.next⟩]++a0.hide) a7.log).blks (aA.mk a7.blks a7.next (aV 49152 [⟨13,1,a4.next,a5.next⟩,⟨10,1,a1.next,a4.next⟩,⟨7,1,a2.next,a1.next⟩,⟨5,1,a0.next,a2.next⟩,⟨4,1,a0.next,a0.next⟩]++a0.hide) a7.log).next a0.hide (aA.mk a7.blks a7.next (aV 49152 [⟨13,1,a4.next,a5.next⟩,⟨10,1,a1.next,a4.next⟩,⟨7,1,a2.next,a1.next⟩,⟨5,1,a0.next,a2.next⟩,⟨4,1,a0.next,a0.next⟩]++a0.hide) a7.log).log) a3,qT (cY [b1,b1,b1,b1] a3.log),qL 3 b1 0 (aA.mk a3.blks a3.next a0.hide (a3.log++a0.log)) (i64 (n:Int)),qC 45 [i64 (n:Int),.func (.func 46) ⟨[pt c1 0]⟩ ⟨[]⟩] (aA.mk a3.blks a3.next a0.hide (a3.log++a0.log)) (pt C2 0) e8,qS 51 c1 6 (pt C2 0) e8 c5]):=by kernel_rfl
 dsimp only at b3
 have w6:aA.mk a0.blks a0.next a0.hide []=g7:=b9.symm
 have w7:=pY ((e4).hide.trans (j8).hide.symm)
 have w8:=Jd 256 [⟨7,1,a2.next,a1.next⟩,⟨5,1,a0.next,a2.next⟩,⟨4,1,a0.next,a0.next⟩] ((e4).hide.trans (j8).hide.symm)
 have x0:=Jd 2048 [⟨10,1,a1.next,a4.next⟩,⟨7,1,a2.next,a1.next⟩,⟨5,1,a0.next,a2.next⟩,⟨4,1,a0.next,a0.next⟩] ((e4).hide.trans (l0).hide.symm)
 have x1:=Jd 16384 [⟨13,1,a4.next,a5.next⟩,⟨10,1,a1.next,a4.next⟩,⟨7,1,a2.next,a1.next⟩,⟨5,1,a0.next,a2.next⟩,⟨4,1,a0.next,a0.next⟩] ((e4).hide.trans (e9).hide.symm)
 have x2:=pY ((e4).hide.trans (h2).hide.symm)
 have q9:=Ew (L:=(a3.log++a0.log)) ((e4).hide.trans (h3).hide.symm)
 have r0:(aA.mk a3.blks a3.next a3.hide (a3.log++a0.log))=d5:=a6.symm
 try rw[w6] at b3
 try rw[w7] at b3
 try rw[w8] at b3
 try rw[x0] at b3
 try rw[x1] at b3
 try rw[x2] at b3
 try rw[q9] at b3
 try rw[r0] at b3
 exact⟨pt c1 0,c5,Ev.told_tmp aG aF Try.func21 aAi (by kernel_rfl) rK21 (fun B=>lQ (gP 43 Q43 (gP 44 Q44 (gP 45 Q45A (gS _))))) (fun _ _=>rfl) b3 (hk (bP (by rw[<-u0,<-u1];kernel_rfl) Nat.one_ne_zero) (hk (lC bV g5 rfl) (hk (bP l4 Nat.one_ne_zero) (hk (bP (by rw[<-e1,<-l5];kernel_rfl) Nat.one_ne_zero) (hk (lC bV o4 rfl) (hk (mB a9) (hk (lC nN o4 rfl) (hk (aJ rfl w4 v4 r5) (hk (bP (by rw[<-f8,<-h7];kernel_rfl) Nat.one_ne_zero) (hk (lC bV (cB.2 ⟨dI (by simp;omega),o5⟩) rfl) (hk (mB a9) (hk (aJ rfl w5 v5 r6) (hk (lC bV (cB.2 ⟨dI (by simp;omega),s5⟩) rfl) (hk (mB a9) (hk (bP (l6 _) Nat.one_ne_zero) (hk (lC bV (cB.2 ⟨dI (by simp;omega),i0⟩) rfl) (hk (mB a9) (hk (bP (h6 _) Nat.one_ne_zero) (hk (dA q7) (hk (eD (by rw[j5];simp<;>omega)) (hk (lC bV n1 rfl) (hk (aJ rfl q6 p7 l2) (hk (dA q8) hn))))))))))))))))))))))),k9,i9,⟨(⟨c1,C2,K2,c3,c6,c7,a8⟩:BK),_,rfl,fun i hi=>by simp only [BK.ids,List.mem_cons,List.not_mem_nil,or_false] at hi;rcases hi with e|e|e|e|e|e|e<;>(rw[e];omega),u6⟩⟩
instance:AQ pNB:=⟨fun hE ⟨k,ev,h1,h2,h3⟩=>⟨k,ev,h1,h2,h3.old hE⟩⟩
abbrev Q21:=FC (hZ (sU nT) fun x:Nat×List E4=>(1<=x.1/\x.1<=24)/\x.2.length<=400) pNB id
theorem con21{x:Nat×List E4}{lv:List Value}{M:aA}(hM:aB M)(h:(hZ (sU nT) fun x:Nat×List E4=>(1<=x.1/\x.1<=24)/\x.2.length<=400) x lv M): ∃v M',lM Try.prog [] 21 Q21 lv M v M':=by
 refine FC.con h ?_
 obtain⟨⟨g0,rfl,k0⟩,h1,h2⟩:=h
 obtain⟨n,es⟩:=x
 obtain⟨L,rfl,a0⟩:=k0
 obtain⟨ea,ec,rfl⟩:=aH.form a0
 obtain⟨v,M',q1,q2,_,q3⟩:=hw21 n es ea ec hM a0 h2 h1
 exact⟨v,M',q1,q2,q3⟩
theorem rBo(v r bB C K G R U D n rb ro rc m i:Nat)(es:List E4)(ev S:Value)(s0:HB)(gone:List Bool)(rank:List Int)(up down:List (List Int))(us ds:List Value){M M0:aA}(hM:aB M)(X0:Ext M0 M)(h0:M0.next=G)(hb:cW 53 73 42 22 46 ⟨⟨bB,C,K,G,R,U,D⟩,n,es,ev,S,⟨s0,gone,rank,up,down⟩,us,ds⟩ M)(hv:v<n)(e0:rank.length=n)(d9:aAa ⟨⟨bB,C,K,G,R,U,D⟩,n,es,ev,S,⟨s0,gone,rank.set v (i:Int),up,down⟩,us,ds⟩ v)(b8:(decide ((i:Int)<(m:Int)))=true)(b1:bI Try.prog 3 ⟨rb,ro+((i:Int):Int).toNat*1,none⟩ M=some (i64 (v:Int)))(b2:0+((v:Int):Int).toNat*1+1<=(rank.map i64).length): ∃T1 M' a2 b7 a4,Rd Try.prog [] (q11.loopAt 0) Try.f11.ntmps (fr [(2,(pt r 0)),(3,(pt bB 0)),(15,(aC rb ro m rc)),(16,(i64 (m:Int))),(17,(i64 (i:Int)))]) M .normal T1 M'/\ [2,3,15,16,17].map T1.get= [some (pt r 0),some (pt bB 0),some (aC rb ro m rc),some (i64 (m:Int)),some (i64 (IntKind.wrap .i64 ((i:Int)+(1:Int))))]/\Ext M0 M'/\aB M'/\cW 53 73 42 22 46 ⟨⟨bB,C,K,G,R,U,D⟩,n,es,ev,a2,nO n ⟨s0,gone,rank.set v (i:Int),up,down⟩ v,b7,a4⟩ M'/\sF (⟨bB,C,K,G,R,U,D⟩:BK) S M a2 M':=by
 have c0:M.get bB=some ⟨[i64 n,ev,aC R 0 n (n+1),S,aC U 0 n (n+1),aC D 0 n (n+1),pt C 0,aC G 0 n (n+1)],53,8,0,true⟩:=hb.gB
 have gC:M.get C=some ⟨[i64 n,aC K 0 (n*n*5) (n*n*5+1),.func (.func 46) ⟨[pt bB 0]⟩ ⟨[]⟩],73,3,0,true⟩:=hb.gC
 have gK:M.get K=some ⟨s0.cur.map i64,3,1,0,true⟩:=hb.gK
 have gG:M.get G=some ⟨gone.map Value.bool,4,1,0,true⟩:=hb.gG
 have gR:M.get R=some ⟨rank.map i64,3,1,0,true⟩:=hb.gR
 have gU:M.get U=some ⟨us,22,1,0,true⟩:=hb.gU
 have gD:M.get D=some ⟨ds,22,1,0,true⟩:=hb.gD
 have nG:M0.next<=G:=by rw[h0];exact hb.lo G (by simp [BK.ids])
 have nR:M0.next<=R:=by rw[h0];exact hb.lo R (by simp [BK.ids])
 have d8:([bB,C,K,G,R,U,D]:List Nat).Nodup:=hb.nd
 obtain⟨dbBC,dbBK,dbBG,a5,dbBU,dbBD,dCK,dCG,c4,dCU,dCD,dKG,c6,dKU,dKD,c5,dGU,dGD,c8,c7,dUD⟩:=nd7 d8
 have d3:cT 42 7 M0 [bB,C,K,G,R,U,D] s0.arcs.length ((s0.arcs.map bL).flatten) S M:=hb.acc.acc (Nat.le_of_eq h0)
 obtain⟨M1,q2,g3,a0,X5,d5,e1⟩:=aZ (o:=0+((v:Int):Int).toNat*1) (v:=(i64 (i:Int))) (new:=splice (rank.map i64) (0+((v:Int):Int).toNat*1) [i64 (i:Int)]) X0 nR hM Jc gR rfl rfl (Nat.zero_le _) b2 rfl
 have A8:=d3.keep (by simp) (fun id h _=>a0 id h)
 have g9:=(a0 _ a5).trans c0
 have c9:=(a0 _ c4).trans gC
 have d0:=(a0 _ c6).trans gK
 have b9:=(a0 _ c5).trans gG
 have d1:=(a0 _ (Ne.symm c8)).trans gU
 have d2:=(a0 _ (Ne.symm c7)).trans gD
 have c2:=nE q2
 rw[Go.Am.Vu (by rw[e0];exact hv)] at g3
 have a3: ∀id k,M.get id=some k-> ¬(id=(⟨bB,C,K,G,R,U,D⟩:BK).a S\/id∈ [bB,C,K,G,R,U,D])->M1.get id=some k:=fun id k g hown=>by
  have c1:id∉ [bB,C,K,G,R,U,D]:=fun e=>hown (.inr e)
  simp only [List.mem_cons,List.not_mem_nil,or_false,not_or] at c1
  obtain⟨h_bB,h_C,h_K,h_G,d6,h_U,h_D⟩:=c1
  have g:=((fun id h _=>a0 id h) id d6 (aA.lt_of_get g)).trans g
  exact g
 have d7:cW 53 73 42 22 46 ⟨⟨bB,C,K,G,R,U,D⟩,n,es,ev,S,⟨s0,gone,rank.set v (i:Int),up,down⟩,us,ds⟩ M1:=cW.next (x:=⟨⟨bB,C,K,G,R,U,D⟩,n,es,ev,S,⟨s0,gone,rank,up,down⟩,us,ds⟩) (s:=⟨s0,gone,rank.set v (i:Int),up,down⟩) hb a3 (.inl rfl) g9 c9 d0 b9 g3 d1 d2 (fK.of_acc (A8.less (fun x hx=>hx)) rfl rfl (Nat.le_of_eq h0.symm)) (hb.up.ext (iL (x:=⟨⟨bB,C,K,G,R,U,D⟩,n,es,ev,S,⟨s0,gone,rank,up,down⟩,us,ds⟩) a3 (.inl rfl))) (hb.down.ext (iL (x:=⟨⟨bB,C,K,G,R,U,D⟩,n,es,ev,S,⟨s0,gone,rank,up,down⟩,us,ds⟩) a3 (.inl rfl)))
 obtain⟨b6,w21,a1,b0,c3,a6,b5,b4,a7⟩:=nY (P:=Try.prog) (o:=ob24) (f:=24) (x:=(⟨⟨bB,C,K,G,R,U,D⟩,n,es,ev,S,⟨s0,gone,rank.set v (i:Int),up,down⟩,us,ds⟩,v)) (l:= [pt bB 0,i64 (v:Int)]) d5 X5 (nG) (Nat.le_of_lt (aA.lt_of_get b9)) (⟨rfl,d7,d9⟩) con24
 obtain⟨a2,b7,a4,_,a9,a8,rfl⟩:=a7
 have d4:sF (⟨bB,C,K,G,R,U,D⟩:BK) S M S M1:=⟨a3,.inl rfl,by omega⟩
 have b3:oR Try.prog [] 60 Try.f11 (q11.loopAt 0) [(2,(pt r 0)),(3,(pt bB 0)),(15,(aC rb ro m rc)),(16,(i64 (m:Int))),(17,(i64 (i:Int)))] M [aP 2,aP 6,aR 8 (i64 (v:Int)),aR 22 (aC R 0 n (n+1)),aP 28,jJ 30 M1,.at 36 ((bif b6 then 1 else 2),.val w21,a1)] [2,3,15,16,17]=some (.normal,[some (pt r 0),some (pt bB 0),some (aC rb ro m rc),some (i64 (m:Int)),some (i64 (IntKind.wrap .i64 ((i:Int)+(1:Int))))],a1,[qT (decide ((i:Int)<(m:Int))),.q (.inb (i:Int) m) (eT true),qL 3 rb (ro+((i:Int):Int).toNat*1) M (i64 (v:Int)),qL 22 bB 2 M (aC R 0 n (n+1)),.q (.inb (v:Int) n) (eT true),qS 3 R (0+((v:Int):Int).toNat*1) (i64 (i:Int)) M M1,.cl 24 [pt bB 0,i64 (v:Int)] M1 ((bif b6 then 1 else 2),.val w21,a1)]):=by cases b6<;>kernel_rfl
 obtain⟨T1,h1,h2⟩:=Rd.told aG aF (fun B=>lQ (Ux 24 (TC.ok (Q:=(Uv (ob24))) _) (gS _))) (fun _ _=>rfl) b3 (hk (bT b8) (hk (dY (by omega) (by simp at b8;omega)) (hk (fF (b1)) (hk (lC jU c0 rfl) (hk (dY (by omega) (by omega)) (hk (dA q2) (hk (b0 _ rfl) hn)))))))
 exact⟨T1,a1,a2,b7,a4,h1,h2,c3,a6,a9,d4.step b4 a8 b5⟩
theorem rBx(r bB rc m i:Nat)(ra:Option Addr){M:aA}(a0:(decide ((i:Int)<(m:Int)))=false): ∃T1,Rd Try.prog [] (q11.loopAt 0) Try.f11.ntmps (fr [(2,(pt r 0)),(3,(pt bB 0)),(15,(.slice ra m rc)),(16,(i64 (m:Int))),(17,(i64 (i:Int)))]) M (.exit 0) T1 M/\ [2,3].map T1.get= [some (pt r 0),some (pt bB 0)]:=by
 exact Rd.told (tb:=[]) (n:=60) (F:=[aO 2]) aG aF (aI Try.prog) (fun _ _=>rfl) (by kernel_rfl) (hk (bF a0) hn)
theorem Zi{r bB C K G R U D n rc:Nat}{ra:Option Addr}{es:List E4}{l:List Int}{ev S:Value}{us ds:List Value}{M0 M:aA}(hM:aB M)(X0:Ext M0 M)(h0:M0.next=G)(hb:cW 53 73 42 22 46 ⟨⟨bB,C,K,G,R,U,D⟩,n,es,ev,S,cU n es l 0,us,ds⟩ M)(a4:aL l (.slice ra l.length rc) (cK ((⟨bB,C,K,G,R,U,D⟩:BK).hideS S) M))(b1:jI n es)(hl: ∀v∈l,0<=v/\v<n)(hll:l.length<=24)(a0:n<=24):
  ∃M',bN Try.prog [] (q11.loopAt 0) Try.f11.ntmps (fr [(2,pt r 0),(3,pt bB 0),(15,.slice ra l.length rc),(16,i64 l.length),(17,i64 ((0:Nat):Int))]) M (.exit 0) (fr [(2,pt r 0),(3,pt bB 0)]) M'/\Ext M0 M'/\aB M'/\ ∃S' a5 a1,cW 53 73 42 22 46 ⟨⟨bB,C,K,G,R,U,D⟩,n,es,ev,S',cU n es l l.length,a5,a1⟩ M'/\sF (⟨bB,C,K,G,R,U,D⟩:BK) S M S' M':=by
 obtain⟨⟨S',a5,a1⟩,M',h1,h2,h3,h4,h5⟩:=bN.for (P:=Try.prog) (GL:= []) (b:=q11.loopAt 0) (nt:=Try.f11.ntmps) (id:=0) (σ:=Value×List Value×List Value) (n:=l.length) (Inv:=fun i σ M1=>Ext M0 M1/\aB M1/\cW 53 73 42 22 46 ⟨⟨bB,C,K,G,R,U,D⟩,n,es,ev,σ.1,cU n es l i,σ.2.1,σ.2.2⟩ M1/\sF (⟨bB,C,K,G,R,U,D⟩:BK) S M σ.1 M1)
  (F:=fun i _=> [(2,pt r 0),(3,pt bB 0),(15,.slice ra l.length rc),(16,i64 l.length),(17,i64 ((i:Nat):Int))])
  (O:=fun _=> [(2,pt r 0),(3,pt bB 0)])
  (by
   rintro i ⟨S1,a6,a2⟩ M1 hi ⟨X1,a7,a3,hF⟩
   simp only at a3 hF
   have a8:aL l (.slice ra l.length rc) M1:=AP.ext (R:=aL) (fun id b hg=>(lX.1 (hF.hids id b hg)).2) a4
   obtain⟨rb,ro,rfl,_⟩:=cF a8 (by omega)
   have ht:l[i]?=some l[i]:=List.getElem?_eq_getElem hi
   have hv:=hl _ (List.getElem_mem hi)
   have b4:((l[i].toNat:Nat):Int)=l[i]:=by omega
   have b2:=kM (P:=Try.prog) (ty:=3) a8 ht rfl bV
   have hG:=HG.go b1 hl i (by omega)
   have e1:(2:Int)^i<=2^24:=Wm (by omega)
   have e2:(0:Int)<=2^i:=Int.pow_nonneg (by omega)
   have e3:i*(25*n*n)<=24*(25*24*24):=Nat.mul_le_mul (by omega) (Nat.mul_le_mul (Nat.mul_le_mul (Nat.le_refl _) a0) a0)
   have e4:n*n*5<=24*24*5:=Nat.mul_le_mul_right _ (Nat.mul_le_mul a0 a0)
   have b0:HG n (2147483647*2^i) (n*n*5+i*(25*n*n)) {cU n es l i with rank:=(cU n es l i).rank.set l[i].toNat i}:=⟨hG.hi,hG.len,hG.gone,by rw[List.length_set];exact hG.rank,hG.up,hG.down⟩
   have b3:aAa ⟨⟨bB,C,K,G,R,U,D⟩,n,es,ev,S1,⟨(cU n es l i).b,(cU n es l i).gone,(cU n es l i).rank.set l[i].toNat (i:Int),(cU n es l i).up,(cU n es l i).down⟩,a6,a2⟩ l[i].toNat:=⟨by show n<=60;omega,by show _<n;omega,_,_,b0,by omega,by omega,by omega⟩
   obtain⟨T1,M2,S2,b5,a9,h1,h2,h3,h4,h5,h6⟩:=rBo l[i].toNat r bB C K G R U D n rb ro rc l.length i es ev S1 (cU n es l i).b (cU n es l i).gone (cU n es l i).rank (cU n es l i).up (cU n es l i).down a6 a2 a7 X1 h0 a3 (by omega) hG.rank b3 (decide_eq_true (by omega)) (by rw[b4];exact b2) (by rw[List.length_map,hG.rank];omega)
   rw[aX (by omega)] at h2
   refine⟨(S2,b5,a9),T1,M2,h1,h2,h3,h4,?_,hF.trans h6⟩
   rw[cU,ht]
   exact h5)
  (by
   rintro⟨S1,a6,a2⟩ M1 ⟨X1,a7,a3,hF⟩
   exact rBx r bB rc l.length l.length ra (M:=M1) (decide_eq_false (by omega)))
  l.length 0 (by omega) (s:=(S,us,ds)) (M:=M) ⟨X0,hM,hb,sF.refl _ _ _⟩
 exact⟨M',h1,h2,h3,S',a5,a1,h4,h5⟩
theorem rK11:Try.f11.results= #[.cell 2 31]:=by kernel_rfl
theorem hw11(n:Nat)(es:List E4)(ea:Option Addr)(ec:Nat){M:aA}(hM:aB M)(f7:aU es (.slice ea es.length ec) M)(a6:eX (n:Int) es=true)(a2:1<=n/\n<=24)(h2:es.length<=400)(c6:jI n es): ∃v_ M',Ev Try.prog [] 11 [.agg ⟨[i64 (n:Int),.slice ea es.length ec]⟩] M v_ M'/\Ext M M'/\aB M'/\iQ qN (Km (n,es)) M.next v_ M':=by
 obtain⟨b1,M2,j3,j4,g5,E6,k2⟩:=bE hM ⟨[i64 (n:Int),.slice ea es.length ec],26,2,0,true⟩
 have X9:=(Ext.refl M).trans E6
 obtain⟨a0,c0,b2,d5,j5,g6,e5⟩:=bE k2 ⟨[i64 0,eZ,eZ,eZ,eZ,eZ],31,6,0,true⟩
 have g1:=mG b2 X9
 have h0:=g6.old g5
 have g7:=X9.trans g6
 obtain⟨w20,l7,c1,l1,k6,j0,c7,e6,h7⟩:=aM (x:=((n:Int),es)) e5 Se (⟨_,rfl,_,rfl,AP.Ext (R:=aU) f7 g7⟩)
 have e1:=c7.old h0
 have h1:=c7.old j5
 have d6:w20= .bool true:=(show w20= .bool (eX (n:Int) es) from h7).trans (congrArg Value.bool a6)
 subst d6
 have d4:=g7.trans c7
 obtain⟨w33,l8,d1,l2,k7,j1,c8,e7,h8⟩:=aM (x:=(n,es)) e6 con21 (⟨⟨_,rfl,_,rfl,AP.Ext (R:=aU) f7 d4⟩,a2,h2⟩)
 have j6:=c8.old e1
 have j7:=c8.old h1
 obtain⟨⟨bB,C,K,G,R,U,D⟩,ev,d7,hids,a7⟩:=h8
 subst d7
 try simp only at a7
 try simp only at hids
 obtain⟨a3,a4,g9⟩:=aH.form a7.es
 try simp only at g9
 subst g9
 have nG:M.next<=G:=Nat.le_trans (d4).next (hids G (by simp [BK.ids]))
 have m2:b1<G:=Nat.lt_of_lt_of_le (aA.lt_of_get e1) (hids G (by simp [BK.ids]))
 have l0:a0<G:=Nat.lt_of_lt_of_le (aA.lt_of_get h1) (hids G (by simp [BK.ids]))
 have i3:=d4.trans c8
 obtain⟨g3,h5,a8,f5,g8,e8,k9,b9,f1⟩:=nY (P:=Try.prog) (o:=ob22) (f:=22) (x:=(⟨⟨bB,C,K,G,R,U,D⟩,n,es,.slice a3 es.length a4,eZ,⟨⟨[],kJ n⟩,List.replicate n false,List.replicate n (-1),List.replicate n [],List.replicate n []⟩,List.replicate n eZ,List.replicate n eZ⟩,())) (l:= [pt bB 0]) e7 i3 (nG) (Nat.le_of_lt a7.gGlt) (⟨rfl,a7,a2,c6,h2,rfl⟩) con22
 have j8:=b9 _ _ j6 (fun e=>by have h9:G<=b1:=a7.own_ge _ e;omega)
 have j9:=b9 _ _ j7 (fun e=>by have h9:G<=a0:=a7.own_ge _ e;omega)
 obtain⟨m0,m3,m1,_,b6,k3,rfl⟩:=f1
 obtain⟨l6,l9,a9,l3,k8,j2,c9,e9,i0⟩:=aM (x:=(n,es)) e8 con23 (⟨⟨_,rfl,_,rfl,AP.Ext (R:=aU) f7 g8⟩,a6⟩)
 have k0:=c9.old j9
 have d0:aL (bW n es) l6 (cK [(0,a8.next)] a9):=lY i0
 obtain⟨c2,c3,d8⟩:=aH.form d0
 subst d8
 have g0:=Bm (R:=aL) b6.own_lt (Nat.le_refl _) d0
 have c5:=b6.old (fun id b h=>(c9).old h)
 have f8:=aH.ln d0
 have i4:=g8.trans c9
 obtain⟨d2,e4,i5,f0,i1,l4,i8,a5,e2⟩:=Zi (r:=a0) (M0:=cut G a9) e9 (Ext.cut (Nat.le_of_lt c5.gGlt)) rfl c5 g0 c6 (iW a6) (Nat.le_trans (rV a6) a2.2) a2.2
 have i6:=Ext.over (i4) nG (Nat.le_of_lt c5.gGlt) i5
 have k1:=e2.keep _ _ k0 (fun e=>by have h9:G<=a0:=c5.own_ge _ e;omega)
 have e3:=HG.go c6 (iW a6) (bW n es).length (Nat.le_refl _)
 obtain⟨g4,h6,b0,f6,i7,b3,h3,b7,b5⟩:=nY (P:=Try.prog) (o:=ob25) (f:=25) (x:=(⟨⟨bB,C,K,G,R,U,D⟩,n,es,.slice a3 es.length a4,i1,cU n es (bW n es) (bW n es).length,l4,i8⟩,())) (l:= [pt bB 0]) f0 i6 (nG) (Nat.le_of_lt a5.gGlt) (⟨rfl,a5,(by show n<=60;omega),e3.hi.len,e3.gone,e3.up⟩) con25
 have d9:=b7 _ _ k1 (fun e=>by have h9:G<=a0:=a5.own_ge _ e;omega)
 obtain⟨i2,l5,i9,_,f2,k4,rfl⟩:=b5
 have f4:cW 53 73 42 22 46 ⟨⟨bB,C,K,G,R,U,D⟩,n,es,.slice a3 es.length a4,i2,iG n es (bW n es),l5,i9⟩ b0:=f2
 obtain⟨sa,sc,eS,_⟩:=fK.form f4.acc
 try simp only at eS
 subst eS
 obtain⟨a1,g2,e0,b8,d3,b4,h4⟩:=aZ (o:=0) (v:=(.agg ⟨[i64 (n:Int),.slice a3 es.length a4,aC R 0 n (n+1),.slice sa (iG n es (bW n es)).b.arcs.length sc,aC U 0 n (n+1),aC D 0 n (n+1)]⟩)) (new:= [i64 (n:Int),.slice a3 es.length a4,aC R 0 n (n+1),.slice sa (iG n es (bW n es)).b.arcs.length sc,aC U 0 n (n+1),aC D 0 n (n+1)]) i7 g1 b3 uN d9 rfl rfl (Nat.zero_le _) (Nat.le_of_ble_eq_true rfl) rfl
 have c4:=zB c6 (iW a6) (rV a6) a2.2
 have k5:qN (Km (n,es)) (.agg ⟨[i64 (n:Int),.slice a3 es.length a4,aC R 0 n (n+1),.slice sa (iG n es (bW n es)).b.arcs.length sc,aC U 0 n (n+1),aC D 0 n (n+1)]⟩) (hid M.next a1):=iQ.keep (R:=qN) nG (fun id b hid hg=>((fun id h _=>b8 id h) id (by omega) (aA.lt_of_get hg)).trans hg) (cW.ix f4 c4.2.1 c4.2.2.1 c4.2.2.2.1 (Nat.le_trans (Nat.le_of_lt c4.1) (by decide)) (by show n<=60;omega))
 have f9:oT Try.prog [0] 60 Try.f11 q11 [.agg ⟨[i64 (n:Int),.slice ea es.length ec]⟩] M [bK 1 (pt b1 0) M2,bK 3 (pt a0 0) c0,aR 5 (.agg ⟨[i64 (n:Int),.slice ea es.length ec]⟩),bK 7 (.bool true) c1,aR 12 (.agg ⟨[i64 (n:Int),.slice ea es.length ec]⟩),bK 14 (pt bB 0) d1,.at 20 ((bif g3 then 1 else 2),.val h5,a8),aR 22 (.agg ⟨[i64 (n:Int),.slice ea es.length ec]⟩),bK 24 (.slice c2 (bW n es).length c3) a9,aP 26,.blk 29 [2,3,15,16,17] .normal (fr [(2,(pt a0 0)),(3,(pt bB 0))]) d2,.at 33 ((bif g4 then 1 else 2),.val h6,b0),aR 41 (.agg ⟨[i64 (n:Int),.slice a3 es.length a4,aC R 0 n (n+1),.slice sa (iG n es (bW n es)).b.arcs.length sc,aC U 0 n (n+1),aC D 0 n (n+1)]⟩),jJ 43 a1] 2=some (.ret,some (pt a0 0),a1,[.eq (eL Try.prog 26 (.agg ⟨[i64 (n:Int),.slice ea es.length ec]⟩) M) (1,.val (pt b1 0),M2),.eq (cN Try.prog 31 M2) (1,.val (pt a0 0),c0),qL 26 b1 0 c0 (.agg ⟨[i64 (n:Int),.slice ea es.length ec]⟩),qC 20 [.agg ⟨[i64 (n:Int),.slice ea es.length ec]⟩] c0 (.bool true) c1,qL 26 b1 0 c1 (.agg ⟨[i64 (n:Int),.slice ea es.length ec]⟩),qC 21 [.agg ⟨[i64 (n:Int),.slice ea es.length ec]⟩] c1 (pt bB 0) d1,.cl 22 [pt bB 0] d1 ((bif g3 then 1 else 2),.val h5,a8),qL 26 b1 0 a8 (.agg ⟨[i64 (n:Int),.slice ea es.length ec]⟩),qC 23 [.agg ⟨[i64 (n:Int),.slice ea es.length ec]⟩] a8 (.slice c2 (bW n es).length c3) a9,.ln c2 (bW n es).length c3,.blk 0 (.loop (q11.loopAt 0)) Try.f11.ntmps [2,3,15,16,17] [some (pt a0 0),some (pt bB 0),some (.slice c2 (bW n es).length c3),some (i64 (((bW n es).length:Nat):Int)),some (i64 0)] a9 .normal (fr [(2,(pt a0 0)),(3,(pt bB 0))]) d2,.cl 25 [pt bB 0] d2 ((bif g4 then 1 else 2),.val h6,b0),qL 31 bB 0 b0 (.agg ⟨[i64 (n:Int),.slice a3 es.length a4,aC R 0 n (n+1),.slice sa (iG n es (bW n es)).b.arcs.length sc,aC U 0 n (n+1),aC D 0 n (n+1)]⟩),qS 31 a0 0 (.agg ⟨[i64 (n:Int),.slice a3 es.length a4,aC R 0 n (n+1),.slice sa (iG n es (bW n es)).b.arcs.length sc,aC U 0 n (n+1),aC D 0 n (n+1)]⟩) b0 a1]):=by cases g3<;>cases g4<;>kernel_rfl
 exact⟨.agg ⟨[i64 (n:Int),.slice a3 es.length a4,aC R 0 n (n+1),.slice sa (iG n es (bW n es)).b.arcs.length sc,aC U 0 n (n+1),aC D 0 n (n+1)]⟩,a1,Ev.told_cell aG aF Try.func11 aAg (by kernel_rfl) rK11 (fun B=>zJ (gP 20 Q20 (gP 21 Q21 (Ux 22 (TC.ok (Q:=(Uv (ob22))) _) (gP 23 Q23 (Ux 25 (TC.ok (Q:=(Uv (ob25))) _) (gS _)))))) 0 e4) (fun _ h=>cD h) f9 (mM (a:=⟨a0,0,none⟩) yT uN e0 rfl) (hk (bP (by rw[<-j3,<-j4];kernel_rfl) Nat.one_ne_zero) (hk (bP (by rw[<-b2,<-d5];kernel_rfl) Nat.one_ne_zero) (hk (lA ⟨Aw,vO⟩ h0 rfl) (hk (aJ rfl l1 k6 j0) (hk (lA ⟨Aw,vO⟩ e1 rfl) (hk (aJ rfl l2 k7 j1) (hk (f5 _ rfl) (hk (lA ⟨Aw,vO⟩ j8 rfl) (hk (aJ rfl l3 k8 j2) (hk (lN f8) (hk (fP rfl) (hk (f6 _ rfl) (hk (lA ⟨yT,uN⟩ f4.gB rfl) (hk (dA g2) hn)))))))))))))),d3,b4,k5⟩
def okBu(x:Nat×List E4):Prop:=eX (x.1:Int) x.2=true/\x.1<=24
abbrev Q11:=FC (hZ (sU nT) okBu) (iQ qN) Km
theorem con11{x:Nat×List E4}{lv:List Value}{M:aA}(hM:aB M)(h:(hZ (sU nT) okBu) x lv M): ∃v M',lM Try.prog [] 11 Q11 lv M v M':=by
 refine FC.con h ?_
 obtain⟨⟨g0,rfl,k0⟩,a0,hn⟩:=h
 obtain⟨n,l⟩:=x
 obtain⟨_,rfl,hl⟩:=k0
 obtain⟨a,c,rfl⟩:=aH.form hl
 simp only at a0 hn
 obtain⟨s1,s2,s3,s4⟩:=fX a0
 obtain⟨v,M',h1,h2,_,h3⟩:=hw11 n l a c hM hl a0 ⟨by omega,hn⟩ s3 (rT a0)
 exact⟨v,M',h1,h2,h3⟩
end Go.Proofs.Ytdaglldahidmbaa
