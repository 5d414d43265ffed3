/-
  Package hier: each of its laws for every argument; no conditions. The last text states which.
-/
import Derived.Test.YtdaglldahidmbaaGreatGAH7
import Derived.Test.YtdaglldahidmbaaGreatGAHR0
set_option linter.unusedVariables false
set_option linter.unusedSimpArgs false
open Go Go.Am Go.Proofs Tryz
namespace Go.Proofs.YtdaglldahidmbaaGreat
set_option maxRecDepth 100000
theorem rK28:Tryz.f28.results= #[]:=by kernel_rfl
theorem hw24(v bB C K G R U D n:Nat)(es:List E4)(ev S:Value)(s0:HB)(gone:List Bool)(rank:List Int)(up down:List (List Int))(us ds:List Value){M M0:aB}(hM:aA M)(X0:Ext M0 M)(h0:M0.next=G)(hb:cW 56 79 42 22 53 ⟨⟨bB,C,K,G,R,U,D⟩,n,es,ev,S,⟨s0,gone,rank,up,down⟩,us,ds⟩ M)(e1:n<=60)(hv:v<n)(f2:s0.cur.length=n*n*5)(k5:gone.length=n)(n9:v<us.length)(n6:v<ds.length)(v1: ∀us ds,aAu ⟨⟨bB,C,K,G,R,U,D⟩,n,es,ev,S,⟨s0,gone.set v true,rank,up.set v (cQ n s0.cur gone .out v),down.set v (cQ n s0.cur (gone.set v true) .inn v)⟩,us,ds⟩ v)(k6:0+((v:Int):Int).toNat*1+1<=(us).length)(k7:0+((v:Int):Int).toNat*1+1<=(gone.map Value.bool).length)(k8:0+((v:Int):Int).toNat*1+1<=(ds).length): ∃M',Ev prog [] 28 [pt bB 0,i64 v] M (.tuple #[]) M'/\Ext M0 M'/\aA M'/\ ∃S' us' ds',cW 56 79 42 22 53 ⟨⟨bB,C,K,G,R,U,D⟩,n,es,ev,S',⟨rA n v (((up.set v (cQ n s0.cur gone .out v))[v]?).getD []) (((down.set v (cQ n s0.cur (gone.set v true) .inn v))[v]?).getD []) s0,gone.set v true,rank,up.set v (cQ n s0.cur gone .out v),down.set v (cQ n s0.cur (gone.set v true) .inn v)⟩,us',ds'⟩ M'/\sI (⟨bB,C,K,G,R,U,D⟩:BK) S M S' M':=by
 have n5:M.get bB=some ⟨[i64 n,ev,aC R 0 n (n+1),S,aC U 0 n (n+1),aC D 0 n (n+1),pt C 0,aC G 0 n (n+1)],56,8,0,true⟩:=hb.gB
 have gC:M.get C=some ⟨[i64 n,aC K 0 (n*n*5) (n*n*5+1),.func (.func 53) ⟨[pt bB 0]⟩ ⟨[]⟩],79,3,0,true⟩:=hb.gC
 have gK:M.get K=some ⟨s0.cur.map i64,3,1,0,true⟩:=hb.gK
 have gG:M.get G=some ⟨gone.map Value.bool,4,1,0,true⟩:=hb.gG
 have gR:M.get R=some ⟨rank.map i64,3,1,0,true⟩:=hb.gR
 have gU:M.get U=some ⟨us,22,1,0,true⟩:=hb.gU
 have gD:M.get D=some ⟨ds,22,1,0,true⟩:=hb.gD
 have nG:M0.next<=G:=by rw[h0];exact hb.lo G (by simp [BK.ids])
 have nU:M0.next<=U:=by rw[h0];exact hb.lo U (by simp [BK.ids])
 have nD:M0.next<=D:=by rw[h0];exact hb.lo D (by simp [BK.ids])
 have u9:([bB,C,K,G,R,U,D]:List Nat).Nodup:=hb.nd
 obtain⟨dbBC,dbBK,h6,dbBR,h7,h5,dCK,p8,dCR,p9,p7,q3,dKR,q4,q2,q1,m4,m3,q7,q6,m5⟩:=nd7 u9
 have t9:cR 42 7 M0 [bB,C,K,G,R,U,D] s0.arcs.length ((s0.arcs.map bM).flatten) S M:=hb.acc.acc (Nat.le_of_eq h0)
 obtain⟨R1,b3⟩:=Jk M M []
 have X3:=Nk b3 X0
 have v3:R1.log= []:=by rw[b3]
 have v6:R1.next=M.next:=by rw[b3]
 have u2:=Jl b3 hM
 have e5:=aB.lt_of_get n5
 have g6:=cF b3 n5
 have g7:=cF b3 gC
 have g8:=cF b3 gK
 have ltGM:=aB.lt_of_get gG
 have g9:=cF b3 gG
 have q8:=cF b3 gR
 have ltUM:=aB.lt_of_get gU
 have r0:=cF b3 gU
 have ltDM:=aB.lt_of_get gD
 have r1:=cF b3 gD
 have o4:=t9.same (M':=R1) (fun id b h=>by rw[b3];exact h)
 have e8:=congrArg aB.next b3
 dsimp only at e8
 obtain⟨w7,x0,c2,v7,v2,m6,b4,k0,p0⟩:=aL (x:=((n,s0.cur,gone),Go.Am.wV.out,v)) u2 Sp (⟨⟨_,_,_,rfl,⟨bB,C,G,n+1,i64 (n:Int),ev,aC R 0 n (n+1),S,aC U 0 n (n+1),aC D 0 n (n+1),rfl,g6,⟨C,K,n*n*5+1,.func (.func 53) ⟨[pt bB 0]⟩ ⟨[]⟩,rfl,by rw[f2];exact g7,g8⟩,g9⟩,rfl,rfl⟩,e1,f2,hv,k5⟩)
 have v4:=b4.next
 have o5:=o4.ext b4
 have r2:=b4.old g6
 have r3:=b4.old g7
 have r4:=b4.old g8
 have r5:=b4.old g9
 have r6:=b4.old q8
 have r7:=b4.old r0
 have r8:=b4.old r1
 have l9:aH (cQ n s0.cur gone .out v) w7 (cI [(0,R1.next)] c2):=kV p0
 obtain⟨b8,c0,h8⟩:=aJ.form l9
 subst h8
 have l0:c2.log= []:=by rw[<-m6];exact v3
 have m1:=X3.trans b4
 obtain⟨a8,o2,m7,b0,m2,k1,l4⟩:=aZ (o:=0+((v:Int):Int).toNat*1) (v:=(.slice b8 (cQ n s0.cur gone .out v).length c0)) (new:=splice us (0+((v:Int):Int).toNat*1) [.slice b8 (cQ n s0.cur gone .out v).length c0]) m1 nU k0 Nv r7 rfl rfl (Nat.zero_le _) k6 rfl
 have p1:=hQ (R:=aH) l9 (fun id h _=>b0 id h) (by intro id hh;simp only [bR] at hh;omega)
 have o6:=o5.keep (by simp) (fun id h _=>b0 id h)
 have r9:=(b0 _ h7).trans r2
 have s1:=(b0 _ p9).trans r3
 have s2:=(b0 _ q4).trans r4
 have s3:=(b0 _ m4).trans r5
 have s4:=(b0 _ q7).trans r6
 have s5:=(b0 _ (Ne.symm m5)).trans r8
 have l1:a8.log= [U]:=by rw[l4,l0]
 have l5:=nJ o2
 rw[rH (by first|exact n9|exact n6)] at m7
 obtain⟨c7,a4⟩: ∃m:aB,m=(aB.mk a8.blks a8.next a8.hide (a8.log++M.log)):=⟨_,rfl⟩
 have p5:Ext M0 c7:=by rw[a4];exact Ext.join (X0) (m2)
 have k2:aA c7:=by rw[a4];exact k1
 have m8:=cF a4 r9
 have s6:=cF a4 s1
 have s7:=cF a4 s2
 have s8:=cF a4 s3
 have s9:=cF a4 s4
 have t0:=cF a4 m7
 have t1:=cF a4 s5
 have o7:=o6.same (M':=c7) (fun id b h=>by rw[a4];exact h)
 have p2:=gJ (R:=aH) (M':=c7) p1 (fun id b h=>by rw[a4];exact h)
 have c4:=congrArg aB.next a4
 dsimp only at c4
 obtain⟨a7,o3,m9,b1,f1,k3,v5⟩:=aZ (o:=0+((v:Int):Int).toNat*1) (v:=(.bool true)) (new:=splice (gone.map Value.bool) (0+((v:Int):Int).toNat*1) [.bool true]) p5 nG k2 dS4 s8 rfl rfl (Nat.zero_le _) k7 rfl
 have p3:=hQ (R:=aH) p2 (fun id h _=>b1 id h) (by intro id hh;simp only [bR] at hh;omega)
 have o8:=o7.keep (by simp) (fun id h _=>b1 id h)
 have n0:=(b1 _ h6).trans m8
 have t2:=(b1 _ p8).trans s6
 have t3:=(b1 _ q3).trans s7
 have t4:=(b1 _ (Ne.symm q1)).trans s9
 have t5:=(b1 _ (Ne.symm m4)).trans t0
 have n1:=(b1 _ (Ne.symm m3)).trans t1
 have l6:=nJ o3
 rw[Wb (by rw[k5];exact hv)] at m9
 obtain⟨c3,a2⟩:=Jk a7 a7 []
 have p6:=Nk a2 f1
 have l2:c3.log= []:=by rw[a2]
 have o1:c3.next=a7.next:=by rw[a2]
 have k4:=Jl a2 k3
 have b6:=aB.lt_of_get n0
 have j9:=cF a2 n0
 have n2:=cF a2 t2
 have n3:=cF a2 t3
 have n4:=cF a2 m9
 have t6:=cF a2 t4
 have t7:=cF a2 t5
 have l3:=aB.lt_of_get n1
 have t8:=cF a2 n1
 have o9:=o8.same (M':=c3) (fun id b h=>by rw[a2];exact h)
 have p4:=gJ (R:=aH) (M':=c3) p3 (fun id b h=>by rw[a2];exact h)
 have c5:=congrArg aB.next a2
 dsimp only at c5
 obtain⟨w8,x1,b2,l7,k9,d0,a5,d3,g0⟩:=aL (x:=((n,s0.cur,(gone.set v true)),Go.Am.wV.inn,v)) k4 Sp (⟨⟨_,_,_,rfl,⟨bB,C,G,n+1,i64 (n:Int),ev,aC R 0 n (n+1),S,aC U 0 n (n+1),aC D 0 n (n+1),rfl,j9,⟨C,K,n*n*5+1,.func (.func 53) ⟨[pt bB 0]⟩ ⟨[]⟩,rfl,by rw[f2];exact n2,n3⟩,n4⟩,rfl,rfl⟩,e1,f2,hv,by rw[List.length_set];exact k5⟩)
 have o0:=a5.next
 have g1:=fT (R:=aH) p4 a5
 have f6:=o9.ext a5
 have i0:=a5.old j9
 have i1:=a5.old n2
 have i2:=a5.old n3
 have i3:=a5.old n4
 have i4:=a5.old t6
 have i5:=a5.old t7
 have i6:=a5.old t8
 have m0:aH (cQ n s0.cur (gone.set v true) .inn v) w8 (cI [(0,c3.next)] b2):=kV g0
 obtain⟨b9,c1,h9⟩:=aJ.form m0
 subst h9
 have e3:b2.log= []:=by rw[<-d0];exact l2
 have c8:=p6.trans a5
 obtain⟨a1,e9,d1,a3,c9,d4,e6⟩:=aZ (o:=0+((v:Int):Int).toNat*1) (v:=(.slice b9 (cQ n s0.cur (gone.set v true) .inn v).length c1)) (new:=splice ds (0+((v:Int):Int).toNat*1) [.slice b9 (cQ n s0.cur (gone.set v true) .inn v).length c1]) c8 nD d3 Nv i6 rfl rfl (Nat.zero_le _) k8 rfl
 have g2:=hQ (R:=aH) g1 (fun id h _=>a3 id h) (by intro id hh;simp only [bR] at hh;omega)
 have g3:=hQ (R:=aH) m0 (fun id h _=>a3 id h) (by intro id hh;simp only [bR] at hh;omega)
 have f7:=f6.keep (by simp) (fun id h _=>a3 id h)
 have i7:=(a3 _ h5).trans i0
 have i8:=(a3 _ p7).trans i1
 have i9:=(a3 _ q2).trans i2
 have j0:=(a3 _ m3).trans i3
 have j1:=(a3 _ q6).trans i4
 have j2:=(a3 _ m5).trans i5
 have e4:a1.log= [D]:=by rw[e6,e3]
 have f4:=nJ e9
 rw[rH (by first|exact n9|exact n6)] at d1
 obtain⟨a6,a0⟩: ∃m:aB,m=(aB.mk a1.blks a1.next a1.hide (a1.log++a7.log)):=⟨_,rfl⟩
 have h2:Ext M0 a6:=by rw[a0];exact Ext.join (f1) (c9)
 have d5:aA a6:=by rw[a0];exact d4
 have j3:=cF a0 i7
 have j4:=cF a0 i8
 have j5:=cF a0 i9
 have d2:=cF a0 j0
 have j6:=cF a0 j1
 have j7:=cF a0 j2
 have j8:=cF a0 d1
 have f8:=f7.same (M':=a6) (fun id b h=>by rw[a0];exact h)
 have g4:=gJ (R:=aH) (M':=a6) g2 (fun id b h=>by rw[a0];exact h)
 have g5:=gJ (R:=aH) (M':=a6) g3 (fun id b h=>by rw[a0];exact h)
 have b7:=congrArg aB.next a0
 dsimp only at b7
 have f3: ∀id k,M.get id=some k-> ¬(id=(⟨bB,C,K,G,R,U,D⟩:BK).a S\/id∈ [bB,C,K,G,R,U,D])->a6.get id=some k:=fun id k g hown=>by
  have n7:id∉ [bB,C,K,G,R,U,D]:=fun e=>hown (.inr e)
  simp only [List.mem_cons,List.not_mem_nil,or_false,not_or] at n7
  obtain⟨h_bB,h_C,h_K,u5,h_R,u6,u4⟩:=n7
  have g:R1.get id=some k:=by rw[b3];exact g
  have g:=b4.old g
  have g:=((fun id h _=>b0 id h) id u6 (aB.lt_of_get g)).trans g
  have g:c7.get id=some k:=by rw[a4];exact g
  have g:=((fun id h _=>b1 id h) id u5 (aB.lt_of_get g)).trans g
  have g:c3.get id=some k:=by rw[a2];exact g
  have g:=a5.old g
  have g:=((fun id h _=>a3 id h) id u4 (aB.lt_of_get g)).trans g
  have g:a6.get id=some k:=by rw[a0];exact g
  exact g
 have n8:=hb.own_lt
 have u3:aH (cQ n s0.cur gone .out v) (.slice b8 (cQ n s0.cur gone .out v).length c0) (cI ((⟨bB,C,K,G,R,U,D⟩:BK).hideS S) a6):=Br (R:=aH) n8 (by omega) g4
 have u0:aH (cQ n s0.cur (gone.set v true) .inn v) (.slice b9 (cQ n s0.cur (gone.set v true) .inn v).length c1) (cI ((⟨bB,C,K,G,R,U,D⟩:BK).hideS S) a6):=Br (R:=aH) n8 (by omega) g5
 have u7:cW 56 79 42 22 53 ⟨⟨bB,C,K,G,R,U,D⟩,n,es,ev,S,⟨s0,gone.set v true,rank,up.set v (cQ n s0.cur gone .out v),down.set v (cQ n s0.cur (gone.set v true) .inn v)⟩,us.set v (.slice b8 (cQ n s0.cur gone .out v).length c0),ds.set v (.slice b9 (cQ n s0.cur (gone.set v true) .inn v).length c1)⟩ a6:=cW.next (x:=⟨⟨bB,C,K,G,R,U,D⟩,n,es,ev,S,⟨s0,gone,rank,up,down⟩,us,ds⟩) (s:=⟨s0,gone.set v true,rank,up.set v (cQ n s0.cur gone .out v),down.set v (cQ n s0.cur (gone.set v true) .inn v)⟩) hb f3 (.inl rfl) j3 j4 j5 d2 j6 j7 j8 (fN.of_acc (f8.less (fun x hx=>hx)) rfl rfl (Nat.le_of_eq h0.symm)) (fR.set (hb.up.ext (iM (x:=⟨⟨bB,C,K,G,R,U,D⟩,n,es,ev,S,⟨s0,gone,rank,up,down⟩,us,ds⟩) f3 (.inl rfl))) u3) (fR.set (hb.down.ext (iM (x:=⟨⟨bB,C,K,G,R,U,D⟩,n,es,ev,S,⟨s0,gone,rank,up,down⟩,us,ds⟩) f3 (.inl rfl))) u0)
 obtain⟨c6,f0,b5,e0,h3,d6,e7,e2,d7⟩:=oD (P:=prog) (o:=ob58) (f:=65) (x:=(⟨⟨bB,C,K,G,R,U,D⟩,n,es,ev,S,⟨s0,gone.set v true,rank,up.set v (cQ n s0.cur gone .out v),down.set v (cQ n s0.cur (gone.set v true) .inn v)⟩,us.set v (.slice b8 (cQ n s0.cur gone .out v).length c0),ds.set v (.slice b9 (cQ n s0.cur (gone.set v true) .inn v).length c1)⟩,v)) (l:= [pt bB 0,i64 (v:Int)]) d5 h2 (nG) (Nat.le_of_lt (aB.lt_of_get d2)) (⟨rfl,u7,v1 _ _⟩) con65
 obtain⟨h1,l8,h4,_,d9,d8,rfl⟩:=d7
 have a9:oU prog [] 60 Tryz.f28 q28 [pt bB 0,i64 v] M [aR 9 (aC U 0 n (n+1)),bJ 17 (.slice b8 (cQ n s0.cur gone .out v).length c0) c2,aQ 19,jE 21 a8,aR 29 (aC G 0 n (n+1)),aQ 33,jE 35 a7,aR 45 (aC D 0 n (n+1)),bJ 53 (.slice b9 (cQ n s0.cur (gone.set v true) .inn v).length c1) b2,aQ 55,jE 57 a1,.at 63 ((bif c6 then 1 else 2),.val f0,b5)]=some (.normal,b5,[qL 30 bB 4 (aB.mk M.blks M.next M.hide []) (aC U 0 n (n+1)),qT (Nat.blt bB M.next),qC 62 [pt bB 0,.func (.func 63) ⟨[]⟩ ⟨[]⟩,i64 (v:Int)] (aB.mk M.blks M.next M.hide []) (.slice b8 (cQ n s0.cur gone .out v).length c0) c2,.q (.inb (v:Int) n) (eD true),qS 22 U (0+((v:Int):Int).toNat*1) (.slice b8 (cQ n s0.cur gone .out v).length c0) (aB.mk c2.blks c2.next M.hide c2.log) a8,qT (cZ [bB] a8.log),qL 54 bB 7 (aB.mk a8.blks a8.next M.hide (a8.log++M.log)) (aC G 0 n (n+1)),.q (.inb (v:Int) n) (eD true),qS 4 G (0+((v:Int):Int).toNat*1) (.bool true) (aB.mk a8.blks a8.next M.hide (a8.log++M.log)) a7,qL 30 bB 5 (aB.mk a7.blks a7.next a7.hide []) (aC D 0 n (n+1)),qT (Nat.blt bB a7.next),qC 62 [pt bB 0,.func (.func 64) ⟨[]⟩ ⟨[]⟩,i64 (v:Int)] (aB.mk a7.blks a7.next a7.hide []) (.slice b9 (cQ n s0.cur (gone.set v true) .inn v).length c1) b2,.q (.inb (v:Int) n) (eD true),qS 22 D (0+((v:Int):Int).toNat*1) (.slice b9 (cQ n s0.cur (gone.set v true) .inn v).length c1) (aB.mk b2.blks b2.next a7.hide b2.log) a1,qT (cZ [bB] a1.log),.cl 65 [pt bB 0,i64 (v:Int)] (aB.mk a1.blks a1.next a7.hide (a1.log++a7.log)) ((bif c6 then 1 else 2),.val f0,b5)]):=by cases c6<;>kernel_rfl
 have v8:aB.mk M.blks M.next M.hide []=R1:=b3.symm
 have v9:=pT ((X0).hide.trans (m1).hide.symm)
 have w0:=Dr (L:=(a8.log++M.log)) ((X0).hide.trans (m2).hide.symm)
 have w1:(aB.mk a8.blks a8.next a8.hide (a8.log++M.log))=c7:=a4.symm
 have w2:aB.mk a7.blks a7.next a7.hide []=c3:=a2.symm
 have w3:=pT ((f1).hide.trans (c8).hide.symm)
 have w4:=Dr (L:=(a1.log++a7.log)) ((f1).hide.trans (c9).hide.symm)
 have w6:(aB.mk a1.blks a1.next a1.hide (a1.log++a7.log))=a6:=a0.symm
 try rw[v8] at a9
 try rw[v9] at a9
 try rw[w0] at a9
 try rw[w1] at a9
 try rw[w2] at a9
 try rw[w3] at a9
 try rw[w4] at a9
 try rw[w6] at a9
 have u1:sI (⟨bB,C,K,G,R,U,D⟩:BK) S M S a6:=⟨f3,.inl rfl,by omega⟩
 exact⟨b5,Ev.told_none aG aF Tryz.func28 aAG (by kernel_rfl) rK28 (fun B=>lV (gH 62 Q62 (Vi 65 (TC.ok (Q:=(Vh (ob58))) _) (gL _)))) (fun _ _=>rfl) a9 (.inr rfl) (hk (lC zC g6 rfl) (hk (lG e5) (hk (aK rfl v7 v2 m6) (hk (dE (by omega) (by omega)) (hk (dB o2) (hk (eA (by rw[l1];simp<;>omega)) (hk (lC Vu m8 rfl) (hk (dE (by omega) (by omega)) (hk (dB o3) (hk (lC zC j9 rfl) (hk (lG b6) (hk (aK rfl l7 k9 d0) (hk (dE (by omega) (by omega)) (hk (dB e9) (hk (eA (by rw[e4];simp<;>omega)) (hk (e0 _ rfl) hn)))))))))))))))),h3,d6,h1,l8,h4,d9,u1.step e2 d8 e7⟩
open Tryz
def aAv(x:uS)(v:Nat):Prop:=x.n<=60/\v<x.n/\ ∃c k,HG x.n c k x.s/\0<=c/\2*c<9223372036854775808/\k<300000000
abbrev ob24:OB (uS×Nat):=obB 56 79 42 22 53 (fun v:Nat=> [i64 ((v:Nat):Int)]) aAv (fun x v _ s=>s=nV x.n x.s v)
theorem con28{x:uS×Nat}{lv:List Value}{M:aB}(hM:aA M)(h:ob24.A x lv M)(a0:ob24.lo x<=M.next): ∃v M',TO prog 28 ob24 lv M v M':=by
 have hA:=h
 obtain⟨⟨⟨bB,C,K,G,R,U,D⟩,n,es,ev,S,⟨s0,gone,rank,up,down⟩,us,ds⟩,v⟩:=x
 obtain⟨rfl,hb,hn,hv,c,k,hG,a2,a3,hk⟩:=h
 simp only at hb hn hv hG
 have X0:Ext (cut G M) M:=Ext.cut a0
 have a4:gone.length=n:=hG.gone
 have hul:us.length=n:=hb.up.1.trans hG.up
 have hdl:ds.length=n:=hb.down.1.trans hG.down
 have hupl:up.length=n:=hG.up
 have hdnl:down.length=n:=hG.down
 have l1:(cQ n s0.cur gone .out v).length<=5*n:=lU n s0.cur gone .out v n
 have l2:(cQ n s0.cur (gone.set v true) .inn v).length<=5*n:=lU n s0.cur (gone.set v true) .inn v n
 have hr: ∀(g:List Bool) (w:Go.Am.wV),∀i∈cQ n s0.cur g w v,0<=i/\i.toNat<s0.arcs.length:=fun g w i hi=>by
  obtain⟨h0,a,_,_,e,_⟩:=hG.hi.row hv hi
  exact⟨h0,(xAg.1 e).1⟩
 have eu:(up.set v (cQ n s0.cur gone .out v))[v]?=some (cQ n s0.cur gone .out v):=List.getElem?_set_self (by omega)
 have ed:(down.set v (cQ n s0.cur (gone.set v true) .inn v))[v]?=some (cQ n s0.cur (gone.set v true) .inn v):=List.getElem?_set_self (by omega)
 have a5: ∀us ds,aAu ⟨⟨bB,C,K,G,R,U,D⟩,n,es,ev,S,⟨s0,gone.set v true,rank,up.set v (cQ n s0.cur gone .out v),down.set v (cQ n s0.cur (gone.set v true) .inn v)⟩,us,ds⟩ v:=fun us ds=>⟨hn,hv,⟨c,hG.hi,a2,a3⟩,by have:=hG.len;show s0.arcs.length<_;simp only at this;omega,cQ n s0.cur gone .out v,cQ n s0.cur (gone.set v true) .inn v,eu,ed,by omega,by omega,hr _ .inn,hr _ .out⟩
 obtain⟨M',h1,h2,h3,S',a6,a1,h4,h5⟩:=hw24 v bB C K G R U D n es ev S s0 gone rank up down us ds hM X0 rfl hb hn hv hG.hi.len a4 (by omega) (by omega) a5 (by omega) (by rw[List.length_map];omega) (by omega)
 refine⟨_,M',h1,_,hA,a0,h2,h5.keep,S',a6,a1,_,h4,h5.a,?_⟩
 rw[eu,ed]
 rfl
open Tryz
theorem reg(v bB C K G R U D n:Nat)(es:List E4)(ev S:Value)(s0:HB)(gone:List Bool)(rank:List Int)(up down:List (List Int))(us ds:List Value)(gq:Bool){M:aB}(hb:cW 56 79 42 22 53 ⟨⟨bB,C,K,G,R,U,D⟩,n,es,ev,S,⟨s0,gone,rank,up,down⟩,us,ds⟩ M)(hn60:n<=60)(hcl:s0.cur.length=n*n*5)(hgl:gone.length=n)(hul:v<us.length)(hv:v<n)(a0:(decide ((v:Int)<(n:Int)))=true)(a1:(gq)=true)(a2:(gone.map Value.bool)[0+((v:Int):Int).toNat*1]?=some (.bool gq)): ∃T1,Rd prog [] (q29.loopAt 0) Tryz.f29.ntmps (fr [(0,(pt bB 0)),(7,(aC G 0 n (n+1))),(8,(i64 (n:Int))),(9,(i64 (v:Int)))]) M .normal T1 M/\ [0,7,8,9].map T1.get= [some (pt bB 0),some (aC G 0 n (n+1)),some (i64 (n:Int)),some (i64 (IntKind.wrap .i64 ((v:Int)+(1:Int))))]:=by
 have gG:M.get G=some ⟨gone.map Value.bool,4,1,0,true⟩:=hb.gG
 exact Rd.told (tb:=[]) (n:=60) (F:=[aQ 2,aQ 6,aR 8 (.bool gq),aO 17]) aG aF (aI prog) (fun _ _=>rfl) (by kernel_rfl) (hk (bT a0) (hk (qI (v:Int) n (by omega) (by omega)) (hq (qL 4 G (0+((v:Int):Int).toNat*1) M (.bool gq)) (eO (bI (a:=⟨G,0+((v:Int):Int).toNat*1,none⟩) Sv gG a2)) (hk (bF (x:=!(gq)) (by rw[a1];rfl)) hn))))
theorem reu(v bB C K G R U D n:Nat)(es:List E4)(ev S:Value)(s0:HB)(gone:List Bool)(rank:List Int)(up down:List (List Int))(us ds:List Value)(gq:Bool){M M0:aB}(hM:aA M)(X0:Ext M0 M)(h0:M0.next=G)(hb:cW 56 79 42 22 53 ⟨⟨bB,C,K,G,R,U,D⟩,n,es,ev,S,⟨s0,gone,rank,up,down⟩,us,ds⟩ M)(b9:n<=60)(d1:s0.cur.length=n*n*5)(i8:gone.length=n)(j1:v<us.length)(hv:v<n)(e2:(decide ((v:Int)<(n:Int)))=true)(e3:(gq)=false)(i7:(gone.map Value.bool)[0+((v:Int):Int).toNat*1]?=some (.bool gq))(c0:0+((v:Int):Int).toNat*1+1<=(us).length): ∃T1 M',Rd prog [] (q29.loopAt 0) Tryz.f29.ntmps (fr [(0,(pt bB 0)),(7,(aC G 0 n (n+1))),(8,(i64 (n:Int))),(9,(i64 (v:Int)))]) M .normal T1 M'/\ [0,7,8,9].map T1.get= [some (pt bB 0),some (aC G 0 n (n+1)),some (i64 (n:Int)),some (i64 (IntKind.wrap .i64 ((v:Int)+(1:Int))))]/\Ext M0 M'/\aA M'/\ ∃us2,cW 56 79 42 22 53 ⟨⟨bB,C,K,G,R,U,D⟩,n,es,ev,S,⟨s0,gone,rank,up.set v (cQ n s0.cur gone .out v),down⟩,us2,ds⟩ M'/\sI (⟨bB,C,K,G,R,U,D⟩:BK) S M S M':=by
 have d0:M.get bB=some ⟨[i64 n,ev,aC R 0 n (n+1),S,aC U 0 n (n+1),aC D 0 n (n+1),pt C 0,aC G 0 n (n+1)],56,8,0,true⟩:=hb.gB
 have gC:M.get C=some ⟨[i64 n,aC K 0 (n*n*5) (n*n*5+1),.func (.func 53) ⟨[pt bB 0]⟩ ⟨[]⟩],79,3,0,true⟩:=hb.gC
 have gK:M.get K=some ⟨s0.cur.map i64,3,1,0,true⟩:=hb.gK
 have gG:M.get G=some ⟨gone.map Value.bool,4,1,0,true⟩:=hb.gG
 have gR:M.get R=some ⟨rank.map i64,3,1,0,true⟩:=hb.gR
 have gU:M.get U=some ⟨us,22,1,0,true⟩:=hb.gU
 have gD:M.get D=some ⟨ds,22,1,0,true⟩:=hb.gD
 have nU:M0.next<=U:=by rw[h0];exact hb.lo U (by simp [BK.ids])
 have j0:([bB,C,K,G,R,U,D]:List Nat).Nodup:=hb.nd
 obtain⟨dbBC,dbBK,dbBG,dbBR,b4,dbBD,dCK,dCG,dCR,e4,dCD,dKG,dKR,e6,dKD,dGR,e5,dGD,e7,dRD,e8⟩:=nd7 j0
 have i1:cR 42 7 M0 [bB,C,K,G,R,U,D] s0.arcs.length ((s0.arcs.map bM).flatten) S M:=hb.acc.acc (Nat.le_of_eq h0)
 obtain⟨R1,a3⟩:=Jk M M []
 have X3:=Nk a3 X0
 have j3:R1.log= []:=by rw[a3]
 have j5:R1.next=M.next:=by rw[a3]
 have i3:=Jl a3 hM
 have b1:=aB.lt_of_get d0
 have g6:=cF a3 d0
 have g7:=cF a3 gC
 have g8:=cF a3 gK
 have g9:=cF a3 gG
 have e9:=cF a3 gR
 have ltUM:=aB.lt_of_get gU
 have f0:=cF a3 gU
 have f1:=cF a3 gD
 have d4:=i1.same (M':=R1) (fun id b h=>by rw[a3];exact h)
 have b2:=congrArg aB.next a3
 dsimp only at b2
 obtain⟨k1,k2,a7,j6,j2,c8,a4,b6,d8⟩:=aL (x:=((n,s0.cur,gone),Go.Am.wV.out,v)) i3 Sp (⟨⟨_,_,_,rfl,⟨bB,C,G,n+1,i64 (n:Int),ev,aC R 0 n (n+1),S,aC U 0 n (n+1),aC D 0 n (n+1),rfl,g6,⟨C,K,n*n*5+1,.func (.func 53) ⟨[pt bB 0]⟩ ⟨[]⟩,rfl,by rw[d1];exact g7,g8⟩,g9⟩,rfl,rfl⟩,b9,d1,hv,i8⟩)
 have j4:=a4.next
 have d5:=d4.ext a4
 have f2:=a4.old g6
 have f3:=a4.old g7
 have f4:=a4.old g8
 have f6:=a4.old g9
 have f7:=a4.old e9
 have f8:=a4.old f0
 have g0:=a4.old f1
 have c5:aH (cQ n s0.cur gone .out v) k1 (cI [(0,R1.next)] a7):=kV d8
 obtain⟨a8,a9,b5⟩:=aJ.form c5
 subst b5
 have c1:a7.log= []:=by rw[<-c8];exact j3
 have c6:=X3.trans a4
 obtain⟨a2,d3,c9,a1,c7,b7,c3⟩:=aZ (o:=0+((v:Int):Int).toNat*1) (v:=(.slice a8 (cQ n s0.cur gone .out v).length a9)) (new:=splice us (0+((v:Int):Int).toNat*1) [.slice a8 (cQ n s0.cur gone .out v).length a9]) c6 nU b6 Nv f8 rfl rfl (Nat.zero_le _) c0 rfl
 have d9:=hQ (R:=aH) c5 (fun id h _=>a1 id h) (by intro id hh;simp only [bR] at hh;omega)
 have d6:=d5.keep (by simp) (fun id h _=>a1 id h)
 have g1:=(a1 _ b4).trans f2
 have g2:=(a1 _ e4).trans f3
 have g3:=(a1 _ e6).trans f4
 have g4:=(a1 _ e5).trans f6
 have g5:=(a1 _ e7).trans f7
 have h3:=(a1 _ (Ne.symm e8)).trans g0
 have c2:a2.log= [U]:=by rw[c3,c1]
 have c4:=nJ d3
 rw[rH (by first|exact j1|exact hdl)] at c9
 obtain⟨a5,a0⟩: ∃m:aB,m=(aB.mk a2.blks a2.next a2.hide (a2.log++M.log)):=⟨_,rfl⟩
 have e1:Ext M0 a5:=by rw[a0];exact Ext.join (X0) (c7)
 have b8:aA a5:=by rw[a0];exact b7
 have h4:=cF a0 g1
 have h5:=cF a0 g2
 have h6:=cF a0 g3
 have h7:=cF a0 g4
 have h8:=cF a0 g5
 have h9:=cF a0 c9
 have i0:=cF a0 h3
 have d7:=d6.same (M':=a5) (fun id b h=>by rw[a0];exact h)
 have e0:=gJ (R:=aH) (M':=a5) d9 (fun id b h=>by rw[a0];exact h)
 have b0:=congrArg aB.next a0
 dsimp only at b0
 have b3: ∀id k,M.get id=some k-> ¬(id=(⟨bB,C,K,G,R,U,D⟩:BK).a S\/id∈ [bB,C,K,G,R,U,D])->a5.get id=some k:=fun id k g hown=>by
  have d2:id∉ [bB,C,K,G,R,U,D]:=fun e=>hown (.inr e)
  simp only [List.mem_cons,List.not_mem_nil,or_false,not_or] at d2
  obtain⟨h_bB,h_C,h_K,h_G,h_R,i5,h_D⟩:=d2
  have g:R1.get id=some k:=by rw[a3];exact g
  have g:=a4.old g
  have g:=((fun id h _=>a1 id h) id i5 (aB.lt_of_get g)).trans g
  have g:a5.get id=some k:=by rw[a0];exact g
  exact g
 have i9:=hb.own_lt
 have i4:aH (cQ n s0.cur gone .out v) (.slice a8 (cQ n s0.cur gone .out v).length a9) (cI ((⟨bB,C,K,G,R,U,D⟩:BK).hideS S) a5):=Br (R:=aH) i9 (by omega) e0
 have i6:cW 56 79 42 22 53 ⟨⟨bB,C,K,G,R,U,D⟩,n,es,ev,S,⟨s0,gone,rank,up.set v (cQ n s0.cur gone .out v),down⟩,us.set v (.slice a8 (cQ n s0.cur gone .out v).length a9),ds⟩ a5:=cW.next (x:=⟨⟨bB,C,K,G,R,U,D⟩,n,es,ev,S,⟨s0,gone,rank,up,down⟩,us,ds⟩) (s:=⟨s0,gone,rank,up.set v (cQ n s0.cur gone .out v),down⟩) hb b3 (.inl rfl) h4 h5 h6 h7 h8 h9 i0 (fN.of_acc (d7.less (fun x hx=>hx)) rfl rfl (Nat.le_of_eq h0.symm)) (fR.set (hb.up.ext (iM (x:=⟨⟨bB,C,K,G,R,U,D⟩,n,es,ev,S,⟨s0,gone,rank,up,down⟩,us,ds⟩) b3 (.inl rfl))) i4) (hb.down.ext (iM (x:=⟨⟨bB,C,K,G,R,U,D⟩,n,es,ev,S,⟨s0,gone,rank,up,down⟩,us,ds⟩) b3 (.inl rfl)))
 have i2:sI (⟨bB,C,K,G,R,U,D⟩:BK) S M S a5:=⟨b3,.inl rfl,by omega⟩
 have a6:oR prog [] 60 Tryz.f29 (q29.loopAt 0) [(0,(pt bB 0)),(7,(aC G 0 n (n+1))),(8,(i64 (n:Int))),(9,(i64 (v:Int)))] M [aQ 2,aQ 6,aR 8 (.bool gq),aQ 17,aR 27 (aC U 0 n (n+1)),bJ 35 (.slice a8 (cQ n s0.cur gone .out v).length a9) a7,aQ 37,jE 39 a2] [0,7,8,9]=some (.normal,[some (pt bB 0),some (aC G 0 n (n+1)),some (i64 (n:Int)),some (i64 (IntKind.wrap .i64 ((v:Int)+(1:Int))))],aB.mk a2.blks a2.next M.hide (a2.log++M.log),[qT (decide ((v:Int)<(n:Int))),.q (.inb (v:Int) n) (eD true),qL 4 G (0+((v:Int):Int).toNat*1) M (.bool gq),qT (!(gq)),qL 30 bB 4 (aB.mk M.blks M.next M.hide []) (aC U 0 n (n+1)),qT (Nat.blt bB M.next),qC 62 [pt bB 0,.func (.func 63) ⟨[]⟩ ⟨[]⟩,i64 (v:Int)] (aB.mk M.blks M.next M.hide []) (.slice a8 (cQ n s0.cur gone .out v).length a9) a7,.q (.inb (v:Int) n) (eD true),qS 22 U (0+((v:Int):Int).toNat*1) (.slice a8 (cQ n s0.cur gone .out v).length a9) (aB.mk a7.blks a7.next M.hide a7.log) a2,qT (cZ [bB] a2.log)]):=by kernel_rfl
 have j7:aB.mk M.blks M.next M.hide []=R1:=a3.symm
 have j8:=pT ((X0).hide.trans (c6).hide.symm)
 have j9:=Dr (L:=(a2.log++M.log)) ((X0).hide.trans (c7).hide.symm)
 have k0:(aB.mk a2.blks a2.next a2.hide (a2.log++M.log))=a5:=a0.symm
 try rw[j7] at a6
 try rw[j8] at a6
 try rw[j9] at a6
 try rw[k0] at a6
 obtain⟨T1,h1,h2⟩:=Rd.told aG aF (fun B=>lV (gH 62 Q62 (gL _))) (fun _ _=>rfl) a6 (hk (bT e2) (hk (dE (by omega) (by omega)) (hk (eO (bI (a:=⟨G,0+((v:Int):Int).toNat*1,none⟩) Sv gG i7)) (hk (bT (by rw[e3];rfl)) (hk (lC zC g6 rfl) (hk (lG b1) (hk (aK rfl j6 j2 c8) (hk (dE (by omega) (by omega)) (hk (dB d3) (hk (eA (by rw[c2];simp<;>omega)) hn))))))))))
 exact⟨T1,a5,h1,h2,e1,b8,_,i6,i2⟩
theorem rex(v bB C K G R U D n:Nat){M:aB}(a0:(decide ((v:Int)<(n:Int)))=false): ∃T1,Rd prog [] (q29.loopAt 0) Tryz.f29.ntmps (fr [(0,(pt bB 0)),(7,(aC G 0 n (n+1))),(8,(i64 (n:Int))),(9,(i64 (v:Int)))]) M (.exit 0) T1 M/\ [0].map T1.get= [some (pt bB 0)]:=by
 exact Rd.told (tb:=[]) (n:=60) (F:=[aO 2]) aG aF (aI prog) (fun _ _=>rfl) (by kernel_rfl) (hk (bF a0) hn)
theorem Vw(n:Nat)(s:Ba)(i:Nat):(eH n s i).b=s.b/\(eH n s i).gone=s.gone/\(eH n s i).rank=s.rank/\(eH n s i).down=s.down/\(eH n s i).up.length=s.up.length:=by
 induction i with
 |zero=>exact⟨rfl,rfl,rfl,rfl,rfl⟩
 |succ i ih=>
  unfold eH
  cases cH (eH n s i).gone i
  ·simpa using ih
  ·exact ih
theorem loopE{bB C K G R U D n:Nat}{es:List E4}{ev S:Value}{s:Ba}{us ds:List Value}{M0 M:aB}(hM:aA M)(X0:Ext M0 M)(h0:M0.next=G)(hb:cW 56 79 42 22 53 ⟨⟨bB,C,K,G,R,U,D⟩,n,es,ev,S,s,us,ds⟩ M)(a5:n<=60)(a9:s.b.cur.length=n*n*5)(b1:s.gone.length=n)(b2:s.up.length=n):
  ∃M',bL prog [] (q29.loopAt 0) Tryz.f29.ntmps (fr [(0,pt bB 0),(7,aC G 0 n (n+1)),(8,i64 n),(9,i64 ((0:Nat):Int))]) M (.exit 0) (fr [(0,pt bB 0)]) M'/\Ext M0 M'/\aA M'/\ ∃a8,cW 56 79 42 22 53 ⟨⟨bB,C,K,G,R,U,D⟩,n,es,ev,S,eH n s n,a8,ds⟩ M'/\sI (⟨bB,C,K,G,R,U,D⟩:BK) S M S M':=by
 obtain⟨a8,M',h1,h2,h3,h4,h5⟩:=bL.for (P:=prog) (GL:= []) (b:=q29.loopAt 0) (nt:=Tryz.f29.ntmps) (id:=0) (σ:=List Value) (n:=n) (Inv:=fun i a2 M1=>Ext M0 M1/\aA M1/\cW 56 79 42 22 53 ⟨⟨bB,C,K,G,R,U,D⟩,n,es,ev,S,eH n s i,a2,ds⟩ M1/\sI (⟨bB,C,K,G,R,U,D⟩:BK) S M S M1)
  (F:=fun i _=> [(0,pt bB 0),(7,aC G 0 n (n+1)),(8,i64 n),(9,i64 ((i:Nat):Int))])
  (O:=fun _=> [(0,pt bB 0)])
  (by
   rintro i a2 M1 hi ⟨X1,a7,a4,hF⟩
   obtain⟨e1,e2,e3,e4,e5⟩:=Vw n s i
   have hus:a2.length=n:=a4.up.1.trans (e5.trans b2)
   have a3:eH n s (i+1)=bif cH (eH n s i).gone i then eH n s i else{eH n s i with up:=(eH n s i).up.set i (cQ n (eH n s i).b.cur (eH n s i).gone .out i)}:=rfl
   have a0:(eH n s i).b.cur.length=n*n*5:=by rw[e1];exact a9
   have a1:(eH n s i).gone.length=n:=by rw[e2];exact b1
   generalize hE:eH n s i=E at a4 a3 a0 a1
   obtain⟨s0,gone,rank,up,down⟩:=E
   simp only at a3 a0 a1
   have b0:gone[i]?=some (cH gone i):=by unfold cH;rw[xAe (by omega)];rfl
   have a6:(gone.map Value.bool)[0+((i:Int):Int).toNat*1]?=some (.bool (cH gone i)):=by simp [b0]
   cases hq:cH gone i with
   |true=>
    rw[hq] at a6 a3
    obtain⟨T1,h1,h2⟩:=reg i bB C K G R U D n es ev S s0 gone rank up down a2 ds true (M:=M1) a4 a5 a0 a1 (by omega) hi (xAb (by omega)) rfl a6
    rw[bD (by omega)] at h2
    refine⟨a2,T1,M1,h1,h2,X1,a7,?_,hF⟩
    rw[a3];exact a4
   |false=>
    rw[hq] at a6 a3
    obtain⟨T1,M2,h1,h2,h3,h4,b3,h5,h6⟩:=reu i bB C K G R U D n es ev S s0 gone rank up down a2 ds false a7 X1 h0 a4 a5 a0 a1 (by omega) hi (xAb (by omega)) rfl a6 (by omega)
    rw[bD (by omega)] at h2
    refine⟨b3,T1,M2,h1,h2,h3,h4,?_,hF.step h6.keep h6.a h6.next⟩
    rw[a3];exact h5)
  (by
   rintro a2 M1 ⟨X1,a7,a4,hF⟩
   exact rex n bB C K G R U D n (M:=M1) (xAa (by omega)))
  n 0 (by omega) (s:=us) (M:=M) ⟨X0,hM,hb,sI.refl _ _ _⟩
 exact⟨M',h1,h2,h3,a8,h4,h5⟩
open Tryz
theorem rK29:Tryz.f29.results= #[]:=by kernel_rfl
theorem hw25(bB C K G R U D n:Nat)(es:List E4)(ev S:Value)(s:Ba)(us ds:List Value){M M0:aB}(hM:aA M)(X0:Ext M0 M)(h0:M0.next=G)(hb:cW 56 79 42 22 53 ⟨⟨bB,C,K,G,R,U,D⟩,n,es,ev,S,s,us,ds⟩ M)(a0:n<=60)(a7:s.b.cur.length=n*n*5)(a8:s.gone.length=n)(a9:s.up.length=n): ∃M',Ev prog [] 29 [pt bB 0] M (.tuple #[]) M'/\Ext M0 M'/\aA M'/\ ∃us',cW 56 79 42 22 53 ⟨⟨bB,C,K,G,R,U,D⟩,n,es,ev,S,eH n s n,us',ds⟩ M'/\sI (⟨bB,C,K,G,R,U,D⟩:BK) S M S M':=by
 have a2:M.get bB=some ⟨[i64 n,ev,aC R 0 n (n+1),S,aC U 0 n (n+1),aC D 0 n (n+1),pt C 0,aC G 0 n (n+1)],56,8,0,true⟩:=hb.gB
 obtain⟨M4,a4,X6,a5,u1,a6,a3⟩:=loopE hM X0 h0 hb a0 a7 a8 a9
 have a1:oU prog [0] 60 Tryz.f29 q29 [pt bB 0] M [aR 7 (aC G 0 n (n+1)),.blk 12 [0,7,8,9] .normal (fr [(0,(pt bB 0))]) M4]=some (.normal,M4,[qL 54 bB 7 M (aC G 0 n (n+1)),.blk 0 (.loop (q29.loopAt 0)) Tryz.f29.ntmps [0,7,8,9] [some (pt bB 0),some (aC G 0 n (n+1)),some (i64 (n:Int)),some (i64 0)] M .normal (fr [(0,(pt bB 0))]) M4]):=by kernel_rfl
 exact⟨M4,Ev.told_none aG aF Tryz.func29 aAH (by kernel_rfl) rK29 (fun B=>wR (gL B) 0 a4) (fun _ h=>bZ h) a1 (.inr rfl) (hk (lC Vu a2 rfl) (hk (fB rfl) hn)),X6,a5,u1,a6,a3⟩
instance:Ro (fun _:Unit=>([]:List Value)):=⟨fun _=>rfl⟩
def okEn(x:uS)(_:Unit):Prop:=x.n<=60/\x.s.b.cur.length=x.n*x.n*5/\x.s.gone.length=x.n/\x.s.up.length=x.n
abbrev ob25:OB (uS×Unit):=obB 56 79 42 22 53 (fun _:Unit=> []) okEn (fun x _ _ s=>s=eH x.n x.s x.n)
theorem con29{x:uS×Unit}{lv:List Value}{M:aB}(hM:aA M)(h:ob25.A x lv M)(a0:ob25.lo x<=M.next): ∃v M',TO prog 29 ob25 lv M v M':=by
 have hA:=h
 obtain⟨⟨⟨bB,C,K,G,R,U,D⟩,n,es,ev,S,s,us,ds⟩,u0⟩:=x
 obtain⟨rfl,hb,h1,h2,h3,h4⟩:=h
 simp only at hb h1 h2 h3 h4
 have X0:Ext (cut G M) M:=Ext.cut a0
 obtain⟨M',q1,q2,q3,a1,q4,q5⟩:=hw25 bB C K G R U D n es ev S s us ds hM X0 rfl hb h1 h2 h3 h4
 exact⟨_,M',q1,_,hA,a0,q2,q5.keep,S,a1,ds,_,q4,q5.a,rfl⟩
open Tryz
theorem r0b(bB C2 K2 n eb eo ec i:Nat)(es:List E4)(cur:List Int)(e:E4){M M0:aB}(hM:aA M)(X0:Ext M0 M)(b9:M.get C2=some ⟨[i64 n,aC K2 0 (n*n*5) (n*n*5+1),.func (.func 54) ⟨[pt bB 0]⟩ ⟨[]⟩],79,3,0,true⟩)(c0:M.get K2=some ⟨cur.map i64,3,1,0,true⟩)(c6:M0.next<=K2)(a1:C2≠K2)(hY:Iw 56 es (pt bB 0) (cI [(K2,K2+1)] M))(c4:aS es (aC eb eo es.length ec) (cI [] M))(c3:Yg es (i:Int)=e)(c5:0<=(i:Int)/\(i:Int)<(es.length:Int))(a2:n<=60/\cur.length=n*n*5/\(0<=(iJ (i:Int) e).f/\(iJ (i:Int) e).f<(n:Int))/\(0<=(iJ (i:Int) e).t/\(iJ (i:Int) e).t<(n:Int))/\(0<=(iJ (i:Int) e).m/\(iJ (i:Int) e).m<5)/\(aX cur (gO n (iJ (i:Int) e))= -1\/(0<=aX cur (gO n (iJ (i:Int) e))/\aX cur (gO n (iJ (i:Int) e))<(es.length:Int))))(b6:(decide ((i:Int)<(es.length:Int)))=true): ∃T1 M',Rd prog [] (q26.loopAt 0) Tryz.f26.ntmps (fr [(0,(pt bB 0)),(2,(aC eb eo es.length ec)),(3,(pt C2 0)),(23,(i64 (es.length:Int))),(24,(i64 (i:Int)))]) M .normal T1 M'/\ [0,2,3,23,24].map T1.get= [some (pt bB 0),some (aC eb eo es.length ec),some (pt C2 0),some (i64 (es.length:Int)),some (i64 (IntKind.wrap .i64 ((i:Int)+(1:Int))))]/\Ext M0 M'/\aA M'/\M'.get C2=some ⟨[i64 (n:Int),aC K2 0 (n*n*5) (n*n*5+1),.func (.func 54) ⟨[pt bB 0]⟩ ⟨[]⟩],79,3,0,true⟩/\M'.get K2=some ⟨(iO dS (⟨C2,K2,bB,n,cur,es,iJ (i:Int) e,(i:Int)⟩:LX (List E4))).map i64,3,1,0,true⟩/\(∀id b,M.get id=some b->id≠K2->M'.get id=some b)/\M.next<=M'.next:=by
 obtain⟨w1,N2,M3,p4,l5,e6,E7,c2,F9⟩:=aL (x:=(es,(i:Int))) hM Xx (⟨⟨_,_,rfl,eF (R:=aS) c4,rfl⟩,c5⟩)
 have c7:=E7.next
 have b3:=fT (R:=(Iw 56)) hY E7
 have b1:=E7.old b9
 have b2:=E7.old c0
 have b7:w1=(.agg ⟨[i64 e.f,i64 e.t,i64 e.m,i64 e.c,i64 (i:Int),i64 0,i64 0]⟩):=by have h9:w1= .agg ⟨bM (iJ (i:Int) (Yg es (i:Int)))⟩:=F9;rw[c3] at h9;exact h9
 subst b7
 have b4:=X0.trans E7
 obtain⟨b0,c9,a0,a8,b5,a6,c8,a3,a7⟩:=oD (P:=prog) (o:=Qy 79 54 dS (Iw 56) (fun y i=>0<=i/\i<(y.length:Int))) (f:=55) (x:=(⟨C2,K2,bB,n,cur,es,iJ ((i:Nat):Int) e,((i:Nat):Int)⟩:LX (List E4))) (l:= [pt C2 0,.agg ⟨[i64 e.f,i64 e.t,i64 e.m,i64 e.c,i64 ((i:Nat):Int),i64 0,i64 0]⟩,i64 ((i:Nat):Int)]) c2 b4 (c6) (Nat.le_of_lt (aB.lt_of_get b2)) (⟨rfl,b1,b2,b3,a1,a2⟩) Zh
 have b8:=a3 _ _ b1 (fun e=>a1 e)
 obtain⟨a4,a5⟩:=a7
 have c1:a0.get K2=some ⟨(iO dS (⟨C2,K2,bB,n,cur,es,iJ (i:Int) e,(i:Int)⟩:LX (List E4))).map i64,3,1,0,true⟩:=a5
 subst a4
 have a9:oR prog [] 60 Tryz.f26 (q26.loopAt 0) [(0,(pt bB 0)),(2,(aC eb eo es.length ec)),(3,(pt C2 0)),(23,(i64 (es.length:Int))),(24,(i64 (i:Int)))] M [aQ 2,bJ 14 (.agg ⟨[i64 e.f,i64 e.t,i64 e.m,i64 e.c,i64 (i:Int),i64 0,i64 0]⟩) M3,.at 18 ((bif b0 then 1 else 2),.val (.bool (dM (dS es) (aX cur (gO n (iJ (i:Int) e))) (iJ (i:Int) e).c)),a0)] [0,2,3,23,24]=some (.normal,[some (pt bB 0),some (aC eb eo es.length ec),some (pt C2 0),some (i64 (es.length:Int)),some (i64 (IntKind.wrap .i64 ((i:Int)+(1:Int))))],a0,[qT (decide ((i:Int)<(es.length:Int))),qC 56 [aC eb eo es.length ec,i64 (i:Int)] M (.agg ⟨[i64 e.f,i64 e.t,i64 e.m,i64 e.c,i64 (i:Int),i64 0,i64 0]⟩) M3,.cl 55 [pt C2 0,.agg ⟨[i64 e.f,i64 e.t,i64 e.m,i64 e.c,i64 (i:Int),i64 0,i64 0]⟩,i64 (i:Int)] M3 ((bif b0 then 1 else 2),.val (.bool (dM (dS es) (aX cur (gO n (iJ (i:Int) e))) (iJ (i:Int) e).c)),a0)]):=by cases b0<;>kernel_rfl
 obtain⟨T1,h1,h2⟩:=Rd.told aG aF (fun B=>lV (Vi 55 (TC.ok (Q:=(Vh (Qy 79 54 dS (Iw 56) (fun y i=>0<=i/\i<(y.length:Int))))) _) (gH 56 Q56 (gL _)))) (fun _ _=>rfl) a9 (hk (bT b6) (hk (aK rfl p4 l5 e6) (hk (a8 _ rfl) hn)))
 exact⟨T1,a0,h1,h2,b5,a6,b8,c1,fun id b g h=>a3 id b (E7.old g) h,by omega⟩
theorem r0x(bB C2 n i:Nat)(ea:Option Addr)(ec:Nat)(es:List E4){M:aB}(a0:(decide ((i:Int)<(es.length:Int)))=false): ∃T1,Rd prog [] (q26.loopAt 0) Tryz.f26.ntmps (fr [(0,(pt bB 0)),(2,(.slice ea es.length ec)),(3,(pt C2 0)),(23,(i64 (es.length:Int))),(24,(i64 (i:Int)))]) M (.exit 0) T1 M/\ [0,2,3].map T1.get= [some (pt bB 0),some (.slice ea es.length ec),some (pt C2 0)]:=by
 exact Rd.told (tb:=[]) (n:=60) (F:=[aO 2]) aG aF (aI prog) (fun _ _=>rfl) (by kernel_rfl) (hk (bF a0) hn)
theorem Zq{bB C2 K2 n ec:Nat}{ea:Option Addr}{es:List E4}{M0 M:aB}(hM:aA M)(X0:Ext M0 M)(a5:M.get C2=some ⟨[i64 n,aC K2 0 (n*n*5) (n*n*5+1),.func (.func 54) ⟨[pt bB 0]⟩ ⟨[]⟩],79,3,0,true⟩)(a6:M.get K2=some ⟨(kN n).map i64,3,1,0,true⟩)(b2:M0.next<=K2)(a0:C2≠K2)(hY:Iw 56 es (pt bB 0) (cI [(K2,K2+1)] M))(a9:aS es (.slice ea es.length ec) (cI [(K2,K2+1)] M))(a1:n<=60)(a8:iQ n es)(hl:es.length<=400):
  ∃M',bL prog [] (q26.loopAt 0) Tryz.f26.ntmps (fr [(0,pt bB 0),(2,.slice ea es.length ec),(3,pt C2 0),(23,i64 es.length),(24,i64 ((0:Nat):Int))]) M (.exit 0) (fr [(0,pt bB 0),(2,.slice ea es.length ec),(3,pt C2 0)]) M'/\Ext M0 M'/\aA M'/\M'.get C2=some ⟨[i64 n,aC K2 0 (n*n*5) (n*n*5+1),.func (.func 54) ⟨[pt bB 0]⟩ ⟨[]⟩],79,3,0,true⟩/\M'.get K2=some ⟨(cS n es es.length).map i64,3,1,0,true⟩/\(∀id b,M.get id=some b->id≠K2->M'.get id=some b)/\M.next<=M'.next:=by
 obtain⟨_,M',h1,h2,h3,h4,h5,h6,h7⟩:=bL.for (P:=prog) (GL:= []) (b:=q26.loopAt 0) (nt:=Tryz.f26.ntmps) (id:=0) (σ:=Unit) (n:=es.length) (Inv:=fun i _ M1=>Ext M0 M1/\aA M1/\M1.get C2=some ⟨[i64 n,aC K2 0 (n*n*5) (n*n*5+1),.func (.func 54) ⟨[pt bB 0]⟩ ⟨[]⟩],79,3,0,true⟩/\M1.get K2=some ⟨(cS n es i).map i64,3,1,0,true⟩/\(∀id b,M.get id=some b->id≠K2->M1.get id=some b)/\M.next<=M1.next)
  (F:=fun i _=> [(0,pt bB 0),(2,.slice ea es.length ec),(3,pt C2 0),(23,i64 es.length),(24,i64 ((i:Nat):Int))])
  (O:=fun _=> [(0,pt bB 0),(2,.slice ea es.length ec),(3,pt C2 0)])
  (by
   rintro i _ M1 hi ⟨X1,a2,g1,g2,hk,hn⟩
   have hh: ∀id b,(cI [(K2,K2+1)] M).get id=some b->(cI [(K2,K2+1)] M1).get id=some b:=fun id b hg=>by
    rw[bV] at hg⊢
    exact⟨hg.1,hk id b hg.2 (fun e=>hg.1 (by rw[e];simp [aY,Nat.ble_eq,Nat.blt_eq]))⟩
   have a7:=AP.ext (R:=Iw 56) hh hY
   have a4:aS es (.slice ea es.length ec) (cI [] M1):=eF (R:=aS) (AP.ext (R:=aS) hh a9)
   obtain⟨eb,eo,rfl,_⟩:=bU a4 (by omega)
   have ht:es[i]?=some es[i]:=xAe hi
   obtain⟨q1,q2,q3,q4⟩:=a8 _ (List.getElem_mem hi)
   have hp:=iP q1 q2 q3
   have a3:=qG n es i
   have b0:Ey n es[i]<(cS n es i).length:=by rw[a3];unfold Ey;omega
   have b1:aX (cS n es i) (Ey n es[i])= -1\/(0<=aX (cS n es i) (Ey n es[i])/\aX (cS n es i) (Ey n es[i])<(es.length:Int)):=by
    rcases mG n es i _ _ (gI b0) with e|⟨e1,e2,_⟩
    ·exact .inl e
    ·exact .inr ⟨e1,by omega⟩
   obtain⟨T1,M2,h1,h2,h3,h4,h5,h6,h7,h8⟩:=r0b bB C2 K2 n eb eo ec i es (cS n es i) es[i] a2 X1 g1 g2 b2 a0 a7 a4 (Cr (by rw[Int.toNat_natCast];exact ht)) ⟨by omega,by omega⟩ ⟨a1,a3,q1,q2,q3,b1⟩ (xAb (by omega))
   rw[bD (by omega)] at h2
   refine⟨(),T1,M2,h1,h2,h3,h4,h5,?_,fun id b g h=>h7 id b (hk id b g h) h,by omega⟩
   rw[h6]
   have:iO dS (⟨C2,K2,bB,n,cS n es i,es,iJ (i:Int) es[i],(i:Int)⟩:LX (List E4))=cS n es (i+1):=by
    rw[cS,ht];rfl
   rw[this])
  (by
   rintro _ M1 ⟨X1,a2,_⟩
   exact r0x bB C2 n es.length ea ec es (M:=M1) (xAa (by omega)))
  es.length 0 (by omega) (s:=()) (M:=M) ⟨X0,hM,a5,a6,fun _ _ g _=>g,Nat.le_refl _⟩
 exact⟨M',h1,h2,h3,h4,h5,h6,h7⟩
open Tryz
theorem r2o(bB C K G R U D n K2 eb eo ec k:Nat)(es:List E4)(ev S:Value)(s0:HB)(gone:List Bool)(rank:List Int)(up down:List (List Int))(us ds:List Value)(b3:List Int)(e:E4)(z:Int){M M0:aB}(hM:aA M)(X0:Ext M0 M)(h0:M0.next=G)(hb:cW 56 79 42 22 53 ⟨⟨bB,C,K,G,R,U,D⟩,n,es,ev,S,⟨s0,gone,rank,up,down⟩,us,ds⟩ M)(b8:M.get K2=some ⟨b3.map i64,3,1,0,true⟩)(hK2o: ¬(K2=(⟨bB,C,K,G,R,U,D⟩:BK).a S\/K2∈(⟨bB,C,K,G,R,U,D⟩:BK).ids))(c2:aS es (aC eb eo es.length ec) (cI [] M))(c1:Yg es z=e)(c3:0<=z/\z<(es.length:Int))(c4:Oj ⟨⟨bB,C,K,G,R,U,D⟩,n,es,ev,S,⟨s0,gone,rank,up,down⟩,us,ds⟩ (iJ z e))(b2:(decide ((k:Int)<((n*n*5:Nat):Int)))=true)(b6:(z==(-1:Int))=false)(c0:(b3.map i64)[0+((k:Int):Int).toNat*1]?=some (i64 z)): ∃T1 M' a0 b1 a2,Rd prog [] (q26.loopAt 2) Tryz.f26.ntmps (fr [(0,(pt bB 0)),(2,(aC eb eo es.length ec)),(37,(aC K2 0 (n*n*5) (n*n*5+1))),(38,(i64 ((n*n*5:Nat):Int))),(39,(i64 (k:Int)))]) M .normal T1 M'/\ [0,2,37,38,39].map T1.get= [some (pt bB 0),some (aC eb eo es.length ec),some (aC K2 0 (n*n*5) (n*n*5+1)),some (i64 ((n*n*5:Nat):Int)),some (i64 (IntKind.wrap .i64 ((k:Int)+(1:Int))))]/\Ext M0 M'/\aA M'/\cW 56 79 42 22 53 ⟨⟨bB,C,K,G,R,U,D⟩,n,es,ev,a0,⟨fO n s0 (iJ z e),gone,rank,up,down⟩,b1,a2⟩ M'/\(∀id b,M.get id=some b-> ¬(id=(⟨bB,C,K,G,R,U,D⟩:BK).a S\/id∈(⟨bB,C,K,G,R,U,D⟩:BK).ids)->M'.get id=some b)/\((⟨bB,C,K,G,R,U,D⟩:BK).a a0=(⟨bB,C,K,G,R,U,D⟩:BK).a S\/(⟨bB,C,K,G,R,U,D⟩:BK).a a0=(⟨bB,C,K,G,R,U,D⟩:BK).B\/M.next<=(⟨bB,C,K,G,R,U,D⟩:BK).a a0)/\M.next<=M'.next:=by
 obtain⟨w1,N2,M3,p4,l5,e6,E7,b9,F9⟩:=aL (x:=(es,z)) hM Xx (⟨⟨_,_,rfl,eF (R:=aS) c2,rfl⟩,c3⟩)
 have c5:=E7.next
 have b7:w1=(.agg ⟨[i64 e.f,i64 e.t,i64 e.m,i64 e.c,i64 z,i64 0,i64 0]⟩):=by have h9:w1= .agg ⟨bM (iJ (z) (Yg es (z)))⟩:=F9;rw[c1] at h9;exact h9
 subst b7
 have b4:=X0.trans E7
 obtain⟨b0,w20,a1,a7,b5,a3,c6,a9,a4⟩:=oD (P:=prog) (o:=ob50) (f:=57) (x:=(⟨⟨bB,C,K,G,R,U,D⟩,n,es,ev,S,⟨s0,gone,rank,up,down⟩,us,ds⟩,(iJ z e))) (l:= [pt bB 0,.agg ⟨[i64 e.f,i64 e.t,i64 e.m,i64 e.c,i64 z,i64 0,i64 0]⟩]) b9 b4 (by rw[h0];exact Nat.le_refl _) (Nat.le_of_lt (hb.old (fun id b h=>(E7.old h))).gGlt) (⟨rfl,hb.old (fun id b h=>(E7.old h)),c4⟩) Xy
 obtain⟨a0,b1,a2,_,a6,a5,rfl⟩:=a4
 have a8:oR prog [] 60 Tryz.f26 (q26.loopAt 2) [(0,(pt bB 0)),(2,(aC eb eo es.length ec)),(37,(aC K2 0 (n*n*5) (n*n*5+1))),(38,(i64 ((n*n*5:Nat):Int))),(39,(i64 (k:Int)))] M [aQ 2,aQ 4,aR 6 (i64 z),aQ 13,bJ 21 (.agg ⟨[i64 e.f,i64 e.t,i64 e.m,i64 e.c,i64 z,i64 0,i64 0]⟩) M3,.at 23 ((bif b0 then 1 else 2),.val w20,a1)] [0,2,37,38,39]=some (.normal,[some (pt bB 0),some (aC eb eo es.length ec),some (aC K2 0 (n*n*5) (n*n*5+1)),some (i64 ((n*n*5:Nat):Int)),some (i64 (IntKind.wrap .i64 ((k:Int)+(1:Int))))],a1,[qT (decide ((k:Int)<((n*n*5:Nat):Int))),.q (.inb (k:Int) (n*n*5)) (eD true),qL 3 K2 (0+((k:Int):Int).toNat*1) M (i64 z),qT (!(z==(-1:Int))),qC 56 [aC eb eo es.length ec,i64 z] M (.agg ⟨[i64 e.f,i64 e.t,i64 e.m,i64 e.c,i64 z,i64 0,i64 0]⟩) M3,.cl 57 [pt bB 0,.agg ⟨[i64 e.f,i64 e.t,i64 e.m,i64 e.c,i64 z,i64 0,i64 0]⟩] M3 ((bif b0 then 1 else 2),.val w20,a1)]):=by cases b0<;>kernel_rfl
 obtain⟨T1,h1,h2⟩:=Rd.told aG aF (fun B=>lV (gH 56 Q56 (Vi 57 (TC.ok (Q:=(Vh (ob50))) _) (gL _)))) (fun _ _=>rfl) a8 (hk (bT b2) (hk (dE (by omega) (by simp at b2;omega)) (hk (eO (bI (a:=⟨K2,0+((k:Int):Int).toNat*1,none⟩) bQ b8 c0)) (hk (bT (by rw[b6];rfl)) (hk (aK rfl p4 l5 e6) (hk (a7 _ rfl) hn))))))
 exact⟨T1,a1,a0,b1,a2,h1,h2,b5,a3,a6,fun id b g h=>a9 id b (E7.old g) h,a5.imp id (Or.imp id (Nat.le_trans (by omega))),by omega⟩
open Tryz
theorem Ut(bB C K G R U D n K2:Nat)(ea:Option Addr)(ec k:Nat)(es:List E4)(ev S:Value)(s0:HB)(gone:List Bool)(rank:List Int)(up down:List (List Int))(us ds:List Value)(lst:List Int)(z:Int)(M:aB):oR prog [] 60 Tryz.f26 (q26.loopAt 2) [(0,(pt bB 0)),(2,(.slice ea es.length ec)),(37,(aC K2 0 (n*n*5) (n*n*5+1))),(38,(i64 ((n*n*5:Nat):Int))),(39,(i64 (k:Int)))] M [aQ 2,aQ 4,aR 6 (i64 z),aO 13] [0,2,37,38,39]=some (.normal,[some (pt bB 0),some (.slice ea es.length ec),some (aC K2 0 (n*n*5) (n*n*5+1)),some (i64 ((n*n*5:Nat):Int)),some (i64 (IntKind.wrap .i64 ((k:Int)+(1:Int))))],M,[qT (decide ((k:Int)<((n*n*5:Nat):Int))),.q (.inb (k:Int) (n*n*5)) (eD true),qL 3 K2 (0+((k:Int):Int).toNat*1) M (i64 z),qF (!(z==(-1:Int)))]):=by kernel_rfl
theorem r2n'(bB C K G R U D n K2:Nat)(ea:Option Addr)(ec k:Nat)(es:List E4)(ev S:Value)(s0:HB)(gone:List Bool)(rank:List Int)(up down:List (List Int))(us ds:List Value)(a1:List Int)(z:Int){M:aB}(hb:cW 56 79 42 22 53 ⟨⟨bB,C,K,G,R,U,D⟩,n,es,ev,S,⟨s0,gone,rank,up,down⟩,us,ds⟩ M)(a4:M.get K2=some ⟨a1.map i64,3,1,0,true⟩)(a2:(decide ((k:Int)<((n*n*5:Nat):Int)))=true)(a3:(z==(-1:Int))=true)(a5:(a1.map i64)[0+((k:Int):Int).toNat*1]?=some (i64 z)): ∃T1,Rd prog [] (q26.loopAt 2) Tryz.f26.ntmps (fr [(0,(pt bB 0)),(2,(.slice ea es.length ec)),(37,(aC K2 0 (n*n*5) (n*n*5+1))),(38,(i64 ((n*n*5:Nat):Int))),(39,(i64 (k:Int)))]) M .normal T1 M/\ [0,2,37,38,39].map T1.get= [some (pt bB 0),some (.slice ea es.length ec),some (aC K2 0 (n*n*5) (n*n*5+1)),some (i64 ((n*n*5:Nat):Int)),some (i64 (IntKind.wrap .i64 ((k:Int)+(1:Int))))]:=by
 have a0:=Ut bB C K G R U D n K2 ea ec k es ev S s0 gone rank up down us ds a1 z M
 obtain⟨T1,h1,h2⟩:=Rd.told aG aF (aI prog) (fun _ _=>rfl) a0 (hk (bT a2) (hk (dE (by omega) (by simp at a2;omega)) (hk (eO (bI (a:=⟨K2,0+((k:Int):Int).toNat*1,none⟩) bQ a4 a5)) (hk (bF (by rw[a3];rfl)) hn))))
 exact⟨T1,h1,h2⟩
theorem Uu(bB n K2:Nat)(ea:Option Addr)(ec k:Nat)(es:List E4)(M:aB):oR prog [] 60 Tryz.f26 (q26.loopAt 2) [(0,(pt bB 0)),(2,(.slice ea es.length ec)),(37,(aC K2 0 (n*n*5) (n*n*5+1))),(38,(i64 ((n*n*5:Nat):Int))),(39,(i64 (k:Int)))] M [aO 2] []=some ((.exit 2),[],M,[qF (decide ((k:Int)<((n*n*5:Nat):Int)))]):=by kernel_rfl
theorem r2x'(bB n K2:Nat)(ea:Option Addr)(ec k:Nat)(es:List E4){M:aB}(a1:(decide ((k:Int)<((n*n*5:Nat):Int)))=false): ∃T1,Rd prog [] (q26.loopAt 2) Tryz.f26.ntmps (fr [(0,(pt bB 0)),(2,(.slice ea es.length ec)),(37,(aC K2 0 (n*n*5) (n*n*5+1))),(38,(i64 ((n*n*5:Nat):Int))),(39,(i64 (k:Int)))]) M (.exit 2) T1 M/\ [].map T1.get= []:=by
 have a0:=Uu bB n K2 ea ec k es M
 obtain⟨T1,h1,h2⟩:=Rd.told aG aF (aI prog) (fun _ _=>rfl) a0 (hk (bF a1) hn)
 exact⟨T1,h1,h2⟩
theorem aAx{x:uS}{M M':aB}{K2:Nat}(hb:cW 56 79 42 22 53 x M)(hE: ∀id b,M.get id=some b->M'.get id=some b)(hK:M.next<=K2):Iw 56 x.es (pt x.k.B 0) (cI [(K2,K2+1)] M')/\aS x.es x.ev (cI [(K2,K2+1)] M'):=by
 have hh: ∀id b,M.get id=some b->(cI [(K2,K2+1)] M').get id=some b:=fun id b hg=>bV.2 ⟨Ie (by have:=aB.lt_of_get hg;omega),hE id b hg⟩
 have he:=AP.ext (R:=aS) hh (eF (R:=aS) hb.es)
 exact⟨⟨x.k.B,_,_,_,_,_,_,_,_,rfl,hh _ _ hb.gB,he⟩,he⟩
theorem Zt{bB C K G R U D n K2 ec:Nat}{ea:Option Addr}{es:List E4}{ev S:Value}{gone:List Bool}{rank:List Int}{up down:List (List Int)}{us ds:List Value}{a0:List Int}{M0 M:aB}(hM:aA M)(X0:Ext M0 M)(h0:M0.next=G)(hb:cW 56 79 42 22 53 ⟨⟨bB,C,K,G,R,U,D⟩,n,es,ev,S,⟨⟨[],kN n⟩,gone,rank,up,down⟩,us,ds⟩ M)(b4:M.get K2=some ⟨a0.map i64,3,1,0,true⟩)(a1: ¬(K2=(⟨bB,C,K,G,R,U,D⟩:BK).a S\/K2∈(⟨bB,C,K,G,R,U,D⟩:BK).ids))(b7:aS es (.slice ea es.length ec) (cI ((⟨bB,C,K,G,R,U,D⟩:BK).hideS S) M))(a4:n<=60)(b5:iQ n es)(b8:a0.length=n*n*5)(c0: ∀(k:Nat) (x:Int),a0[k]?=some x->x= -1\/(0<=x/\ ∃e,es[x.toNat]?=some e)):
  ∃M',bL prog [] (q26.loopAt 2) Tryz.f26.ntmps (fr [(0,pt bB 0),(2,.slice ea es.length ec),(37,aC K2 0 (n*n*5) (n*n*5+1)),(38,i64 ((n*n*5:Nat):Int)),(39,i64 ((0:Nat):Int))]) M (.exit 2) (fr []) M'/\Ext M0 M'/\aA M'/\ ∃S' b3 a8,cW 56 79 42 22 53 ⟨⟨bB,C,K,G,R,U,D⟩,n,es,ev,S',⟨oQ n es a0,gone,rank,up,down⟩,b3,a8⟩ M'/\sI (⟨bB,C,K,G,R,U,D⟩:BK) S M S' M':=by
 have hnn:n*n*5<=60*60*5:=Nat.mul_le_mul_right _ (Nat.mul_le_mul a4 a4)
 obtain⟨⟨S',b3,a8⟩,M',h1,h2,h3,h4,h5⟩:=bL.for (P:=prog) (GL:= []) (b:=q26.loopAt 2) (nt:=Tryz.f26.ntmps) (id:=2) (σ:=Value×List Value×List Value) (n:=n*n*5) (Inv:=fun k σ M1=>Ext M0 M1/\aA M1/\cW 56 79 42 22 53 ⟨⟨bB,C,K,G,R,U,D⟩,n,es,ev,σ.1,⟨oQ n es (a0.take k),gone,rank,up,down⟩,σ.2.1,σ.2.2⟩ M1/\sI (⟨bB,C,K,G,R,U,D⟩:BK) S M σ.1 M1)
  (F:=fun k _=> [(0,pt bB 0),(2,.slice ea es.length ec),(37,aC K2 0 (n*n*5) (n*n*5+1)),(38,i64 ((n*n*5:Nat):Int)),(39,i64 ((k:Nat):Int))])
  (O:=fun _=> [])
  (by
   rintro k ⟨S1,a5,a2⟩ M1 hk ⟨X1,a7,a3,hF⟩
   simp only at a3 hF
   have hK2l:=aB.lt_of_get b4
   have a9:=hF.keep _ _ b4 a1
   have b0: ¬(K2=(⟨bB,C,K,G,R,U,D⟩:BK).a S1\/K2∈(⟨bB,C,K,G,R,U,D⟩:BK).ids):=by
    rintro(e|e)
    ·rcases hF.a with q|q|q
     ·exact a1 (.inl (e.trans q))
     ·exact a1 (.inr (by rw[e,q];simp [BK.ids]))
     ·omega
    ·exact a1 (.inr e)
   have a6:aS es (.slice ea es.length ec) (cI [] M1):=eF (R:=aS) (AP.ext (R:=aS) hF.hids b7)
   have ht:a0[k]?=some a0[k]:=xAe (by omega)
   have b2:(a0.map i64)[0+((k:Int):Int).toNat*1]?=some (i64 a0[k]):=by rw[Nat.zero_add,Nat.mul_one,Int.toNat_natCast,List.getElem?_map,ht];rfl
   obtain⟨q1,q2⟩:=HI.begin (C:=2147483647) b5 (by omega) (a0.take k)
   have b1:oQ n es (a0.take (k+1))=eL n es (oQ n es (a0.take k)) a0[k]:=by
    unfold oQ
    rw[List.take_succ_eq_append_getElem (by omega),List.foldl_append];rfl
   cases hz:a0[k]==(-1:Int) with
   |true=>
    by_cases hee:es.length=0
    ·obtain⟨T1,h1,h2⟩:=r2n' (M:=M1) bB C K G R U D n K2 ea ec k es ev S1 _ gone rank up down a5 a2 a0 a0[k] a3 a9 (xAb (by omega)) hz b2
     rw[bD (by omega)] at h2
     refine⟨(S1,a5,a2),T1,M1,h1,h2,X1,a7,?_,hF⟩
     rw[b1,eL,hz];exact a3
    ·obtain⟨T1,h1,h2⟩:=r2n' (M:=M1) bB C K G R U D n K2 ea ec k es ev S1 _ gone rank up down a5 a2 a0 a0[k] a3 a9 (xAb (by omega)) hz b2
     rw[bD (by omega)] at h2
     refine⟨(S1,a5,a2),T1,M1,h1,h2,X1,a7,?_,hF⟩
     rw[b1,eL,hz];exact a3
   |false=>
    rcases c0 k _ ht with e|⟨e1,ee,e2⟩
    ·rw[e] at hz;cases hz
    ·have hlt:=(xAg.1 e2).1
     obtain⟨eb,eo,rfl,_⟩:=bU a6 (by omega)
     obtain⟨p1,p2,p3,_⟩:=b5 _ (xAh e2)
     have b9:Oj ⟨⟨bB,C,K,G,R,U,D⟩,n,es,ev,S1,⟨oQ n es (a0.take k),gone,rank,up,down⟩,a5,a2⟩ (iJ a0[k] ee):=⟨a4,⟨_,q1⟩,by show(oQ n es (a0.take k)).arcs.length<_;rw[List.length_take] at q2;omega,p1,p2,p3⟩
     obtain⟨T1,M2,S2,c1,b6,h1,h2,h3,h4,h5,h6,h7,h8⟩:=r2o bB C K G R U D n K2 eb eo ec k es ev S1 _ gone rank up down a5 a2 a0 ee a0[k] a7 X1 h0 a3 a9 b0 a6 (Cr e2) ⟨e1,by omega⟩ b9 (xAb (by omega)) hz b2
     rw[bD (by omega)] at h2
     refine⟨(S2,c1,b6),T1,M2,h1,h2,h3,h4,?_,hF.step h6 h7 h8⟩
     rw[b1,eL,hz]
     simp only [cond_false,e2]
     exact h5)
  (by
   rintro⟨S1,a5,a2⟩ M1 ⟨X1,a7,a3,hF⟩
   exact r2x' bB n K2 ea ec (n*n*5) es (M:=M1) (xAa (by omega)))
  (n*n*5) 0 (by omega) (s:=(S,us,ds)) (M:=M) ⟨X0,hM,hb,sI.refl _ _ _⟩
 rw[<-b8,List.take_length] at h4
 exact⟨M',h1,h2,h3,S',b3,a8,h4,h5⟩
open Tryz
theorem rK26:Tryz.f26.results= #[]:=by kernel_rfl
theorem hw22(bB C K G R U D n:Nat)(es:List E4)(ea:Option Addr)(ec:Nat)(S:Value)(gone:List Bool)(rank:List Int)(up down:List (List Int))(us ds:List Value){M M0:aB}(hM:aA M)(X0:Ext M0 M)(h0:M0.next=G)(hb:cW 56 79 42 22 53 ⟨⟨bB,C,K,G,R,U,D⟩,n,es,.slice ea es.length ec,S,⟨⟨[],kN n⟩,gone,rank,up,down⟩,us,ds⟩ M)(b2:1<=n/\n<=24)(a3:n<=60)(c0:iQ n es)(d1:es.length<=400)(d3:ea.isNone=true->es.length=0/\ec=0): ∃M',Ev prog [] 26 [pt bB 0] M (.tuple #[]) M'/\Ext M0 M'/\aA M'/\ ∃S' us' ds',cW 56 79 42 22 53 ⟨⟨bB,C,K,G,R,U,D⟩,n,es,.slice ea es.length ec,S',⟨Cj n es,gone,rank,up,down⟩,us',ds'⟩ M'/\sI (⟨bB,C,K,G,R,U,D⟩:BK) S M S' M':=by
 have b7:M.get bB=some ⟨[i64 n,.slice ea es.length ec,aC R 0 n (n+1),S,aC U 0 n (n+1),aC D 0 n (n+1),pt C 0,aC G 0 n (n+1)],56,8,0,true⟩:=hb.gB
 obtain⟨w1,N2,M3,p4,l5,e6,E7,d0,F9⟩:=aL (x:=(n,bB)) hM Zg (⟨⟨_,_,rfl,rfl,rfl⟩,b2⟩)
 have d6:=E7.next
 obtain⟨C2,K2,c7,d9,d5,a5,b5,b6⟩:=F9
 simp only [id] at b5 b6
 subst c7
 have b4:M0.next<=K2:=by have h9:=X0.next;omega
 have c3:=X0.trans E7
 have b8: ∀id b,M.get id=some b->M3.get id=some b:=fun id b h=>E7.old h
 have d4:M.next<=K2:=d5
 have c1:=aAx hb b8 d4
 obtain⟨a1,a7,c4,a9,c8,c9,d2,d8⟩:=Zq d0 c3 b5 b6 b4 a5 c1.1 c1.2 a3 c0 d1
 have a2: ∀id b,M.get id=some b->a1.get id=some b:=fun id b h=>d2 id b (b8 id b h) (by have:=aB.lt_of_get h;omega)
 have a6: ¬(K2=(⟨bB,C,K,G,R,U,D⟩:BK).a S\/K2∈(⟨bB,C,K,G,R,U,D⟩:BK).ids):=fun e=>by have:=hb.own_lt K2 e;omega
 have b9:=hb.old a2
 obtain⟨a4,a8,c5,b0,c2,d7,c6,b1,a0⟩:=Zt a9 c4 h0 b9 c9 a6 b9.es a3 c0 (qG n es es.length) (fun k x hx=>(mG n es es.length k x hx).imp id (fun h=>⟨h.1,h.2.2.imp fun _ q=>q.1⟩))
 have b3:oU prog [0,2] 60 Tryz.f26 q26 [pt bB 0] M [aR 11 (.slice ea es.length ec),aR 25 (i64 (n:Int)),bJ 31 (pt C2 0) M3,aQ 37,.blk 40 [0,2,3,23,24] .normal (fr [(0,(pt bB 0)),(2,(.slice ea es.length ec)),(3,(pt C2 0))]) a1,aR 48 (aC K2 0 (n*n*5) (n*n*5+1)),.blk 53 [0,2,37,38,39] .normal (fr []) a4]=some (.normal,a4,[qL 24 bB 1 M (.slice ea es.length ec),qL 3 bB 0 M (i64 (n:Int)),qC 52 [i64 (n:Int),.func (.func 54) ⟨[pt bB 0]⟩ ⟨[]⟩] M (pt C2 0) M3,.ln ea es.length ec,.blk 0 (.loop (q26.loopAt 0)) Tryz.f26.ntmps [0,2,3,23,24] [some (pt bB 0),some (.slice ea es.length ec),some (pt C2 0),some (i64 (es.length:Int)),some (i64 0)] M3 .normal (fr [(0,(pt bB 0)),(2,(.slice ea es.length ec)),(3,(pt C2 0))]) a1,qL 22 C2 1 a1 (aC K2 0 (n*n*5) (n*n*5+1)),.blk 2 (.loop (q26.loopAt 2)) Tryz.f26.ntmps [0,2,37,38,39] [some (pt bB 0),some (.slice ea es.length ec),some (aC K2 0 (n*n*5) (n*n*5+1)),some (i64 ((n*n*5:Nat):Int)),some (i64 0)] a1 .normal (fr []) a4]):=by kernel_rfl
 exact⟨a4,Ev.told_none aG aF Tryz.func26 aAE (by kernel_rfl) rK26 (fun B=>sb2 (gH 52 Q52E (gL _)) 0 a7 2 a8) (fun _ h=>yV h) b3 (.inr rfl) (hk (lC nL b7 rfl) (hk (lC bQ b7 rfl) (hk (aK rfl p4 l5 e6) (hk (lN d3) (hk (fB rfl) (hk (lC jW c8 rfl) (hk (fB rfl) hn))))))),c5,b0,c2,d7,c6,b1,(sI.mk (fun id b g _=>a2 id b g) (.inl rfl) (by omega):sI (⟨bB,C,K,G,R,U,D⟩:BK) S M S a1).step a0.keep a0.a a0.next⟩
def okBe(x:uS)(_:Unit):Prop:=(1<=x.n/\x.n<=24)/\iQ x.n x.es/\x.es.length<=400/\x.s.b=⟨[],kN x.n⟩
abbrev ob22:OB (uS×Unit):=obB 56 79 42 22 53 (fun _:Unit=> []) okBe (fun x _ _ s=>s={x.s with b:=Cj x.n x.es})
theorem con26{x:uS×Unit}{lv:List Value}{M:aB}(hM:aA M)(h:ob22.A x lv M)(a1:ob22.lo x<=M.next): ∃v M',TO prog 26 ob22 lv M v M':=by
 have hA:=h
 obtain⟨⟨⟨bB,C,K,G,R,U,D⟩,n,es,ev,S,⟨s0,gone,rank,up,down⟩,us,ds⟩,u0⟩:=x
 obtain⟨rfl,hb,h1,h2,h3,h4⟩:=h
 simp only at hb h1 h2 h3 h4
 subst h4
 have X0:Ext (cut G M) M:=Ext.cut a1
 obtain⟨ea,ec,a0⟩:=aJ.form hb.es
 simp only at a0
 subst a0
 have a3:=aJ.ln hb.es
 obtain⟨M',q1,q2,q3,S',a4,a2,q4,q5⟩:=hw22 bB C K G R U D n es ea ec S gone rank up down us ds hM X0 rfl hb h1 (by omega) h2 h3 a3
 exact⟨_,M',q1,_,hA,a1,q2,q5.keep,S',a4,a2,_,q4,q5.a,rfl⟩
end Go.Proofs.YtdaglldahidmbaaGreat
