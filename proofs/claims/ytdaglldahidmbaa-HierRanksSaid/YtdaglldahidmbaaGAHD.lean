/-
  Package hier: each of its laws for every argument; no conditions. The last text states which.
-/
import Derived.Test.YtdaglldahidmbaaGAH7
import Derived.Test.YtdaglldahidmbaaGAHR0
set_option linter.unusedVariables false
set_option linter.unusedSimpArgs false
open Go Go.Am Go.Proofs
namespace Go.Proofs.Ytdaglldahidmbaa
set_option maxRecDepth 100000
theorem rK24:Try.f24.results= #[]:=by kernel_rfl
theorem hw24(v bB C K G R U D n:Nat)(es:List E4)(ev S:Value)(s0:HB)(gone:List Bool)(rank:List Int)(up down:List (List Int))(us ds:List Value){M M0:aA}(hM:aB M)(X0:Ext M0 M)(h0:M0.next=G)(hb:cM 53 73 42 22 46 ⟨⟨bB,C,K,G,R,U,D⟩,n,es,ev,S,⟨s0,gone,rank,up,down⟩,us,ds⟩ M)(hn60:n<=60)(hv:v<n)(hcl:s0.cur.length=n*n*5)(hgl:gone.length=n)(hul:v<us.length)(hdl:v<ds.length)(hok: ∀us ds,Wq ⟨⟨bB,C,K,G,R,U,D⟩,n,es,ev,S,⟨s0,gone.set v true,rank,up.set v (cL n s0.cur gone .out v),down.set v (cL n s0.cur (gone.set v true) .inn v)⟩,us,ds⟩ v)(hof0:0+((v:Int):Int).toNat*1+1<=(us).length)(hof1:0+((v:Int):Int).toNat*1+1<=(gone.map Value.bool).length)(hof2:0+((v:Int):Int).toNat*1+1<=(ds).length): ∃M',Ev Try.prog [] 24 [pt bB 0,i64 v] M (.tuple #[]) M'/\Ext M0 M'/\aB M'/\ ∃S' us' ds',cM 53 73 42 22 46 ⟨⟨bB,C,K,G,R,U,D⟩,n,es,ev,S',⟨yM n v (((up.set v (cL n s0.cur gone .out v))[v]?).getD []) (((down.set v (cL n s0.cur (gone.set v true) .inn v))[v]?).getD []) s0,gone.set v true,rank,up.set v (cL n s0.cur gone .out v),down.set v (cL n s0.cur (gone.set v true) .inn v)⟩,us',ds'⟩ M'/\rF (⟨bB,C,K,G,R,U,D⟩:BK) S M S' M':=by
 have gbB:M.get bB=some ⟨[i64 n,ev,aD R 0 n (n+1),S,aD U 0 n (n+1),aD D 0 n (n+1),pt C 0,aD G 0 n (n+1)],53,8,0,true⟩:=hb.gB
 have gC:M.get C=some ⟨[i64 n,aD K 0 (n*n*5) (n*n*5+1),.func (.func 46) ⟨[pt bB 0]⟩ ⟨[]⟩],73,3,0,true⟩:=hb.gC
 have gK:M.get K=some ⟨s0.cur.map i64,3,1,0,true⟩:=hb.gK
 have gG:M.get G=some ⟨gone.map Value.bool,4,1,0,true⟩:=hb.gG
 have gR:M.get R=some ⟨rank.map i64,3,1,0,true⟩:=hb.gR
 have gU:M.get U=some ⟨us,22,1,0,true⟩:=hb.gU
 have gD:M.get D=some ⟨ds,22,1,0,true⟩:=hb.gD
 have nG:M0.next<=G:=by rw[h0];exact hb.lo G (by simp [BK.ids])
 have nU:M0.next<=U:=by rw[h0];exact hb.lo U (by simp [BK.ids])
 have nD:M0.next<=D:=by rw[h0];exact hb.lo D (by simp [BK.ids])
 have hnd:([bB,C,K,G,R,U,D]:List Nat).Nodup:=hb.nd
 obtain⟨dbBC,dbBK,dbBG,dbBR,dbBU,dbBD,dCK,dCG,dCR,dCU,dCD,dKG,dKR,dKU,dKD,dGR,dGU,dGD,dRU,dRD,dUD⟩:=Ze hnd
 have q8:cU 42 7 M0 [bB,C,K,G,R,U,D] s0.arcs.length ((s0.arcs.map kB).flatten) S M:=hb.acc.acc (Nat.le_of_eq h0)
 obtain⟨R1,b3⟩: ∃m:aA,m=aA.mk M.blks M.next M.hide []:=⟨_,rfl⟩
 have X3:Ext (aA.mk M0.blks M0.next M0.hide []) R1:=by rw[b3];exact Ext.aside (X0)
 have r3:R1.log= []:=by rw[b3]
 have r6:R1.next=M.next:=by rw[b3]
 have r0:aB R1:=by rw[b3];exact aB.log hM
 have ltbBM:bB<M.next:=by have h:=aA.lt_of_get gbB;exact h
 have g6:R1.get bB=some ⟨[i64 (n:Int),ev,aD R 0 n (n+1),S,aD U 0 n (n+1),aD D 0 n (n+1),pt C 0,aD G 0 n (n+1)],53,8,0,true⟩:=by rw[b3];exact gbB
 have g7:R1.get C=some ⟨[i64 (n:Int),aD K 0 (n*n*5) (n*n*5+1),.func (.func 46) ⟨[pt bB 0]⟩ ⟨[]⟩],73,3,0,true⟩:=by rw[b3];exact gC
 have g8:R1.get K=some ⟨s0.cur.map i64,3,1,0,true⟩:=by rw[b3];exact gK
 have ltGM:G<M.next:=by have h:=aA.lt_of_get gG;exact h
 have g9:R1.get G=some ⟨gone.map Value.bool,4,1,0,true⟩:=by rw[b3];exact gG
 have n7:R1.get R=some ⟨rank.map i64,3,1,0,true⟩:=by rw[b3];exact gR
 have ltUM:U<M.next:=by have h:=aA.lt_of_get gU;exact h
 have n8:R1.get U=some ⟨us,22,1,0,true⟩:=by rw[b3];exact gU
 have ltDM:D<M.next:=by have h:=aA.lt_of_get gD;exact h
 have n9:R1.get D=some ⟨ds,22,1,0,true⟩:=by rw[b3];exact gD
 have m4:=q8.same (M':=R1) (fun id b h=>by rw[b3];exact h)
 have e5:=congrArg aA.next b3
 dsimp only at e5
 obtain⟨Zi,s8,b5,r7,r2,l2,b8,j3,n0⟩:=aH (x:=((n,s0.cur,gone),Go.Am.Df.out,v)) r0 Pp (⟨⟨_,_,_,rfl,⟨bB,C,G,n+1,i64 (n:Int),ev,aD R 0 n (n+1),S,aD U 0 n (n+1),aD D 0 n (n+1),rfl,g6,⟨C,K,n*n*5+1,.func (.func 46) ⟨[pt bB 0]⟩ ⟨[]⟩,rfl,by rw[hcl];exact g7,g8⟩,g9⟩,rfl,rfl⟩,hn60,hcl,hv,hgl⟩)
 have r4:=b8.next
 have m5:=m4.ext b8
 have o0:=b8.old g6
 have o1:=b8.old g7
 have o2:=b8.old g8
 have o3:=b8.old g9
 have o4:=b8.old n7
 have o5:=b8.old n8
 have o6:=b8.old n9
 have k8:aP (cL n s0.cur gone .out v) Zi (bP [(0,R1.next)] b5):=lI n0
 obtain⟨b6,b7,h1⟩:=aK.form k8
 subst h1
 have j9:b5.log= []:=by rw[<-l2];exact r3
 have l0:=X3.trans b8
 obtain⟨a7,m2,e9,b0,l1,j4,k3⟩:=bH (o:=0+((v:Int):Int).toNat*1) (v:=(.slice b6 (cL n s0.cur gone .out v).length b7)) (new:=splice us (0+((v:Int):Int).toNat*1) [.slice b6 (cL n s0.cur gone .out v).length b7]) l0 nU j3 Lb o5 rfl rfl (Nat.zero_le _) hof0 rfl
 replace e9:a7.get U=some ⟨splice us (0+((v:Int):Int).toNat*1) [.slice b6 (cL n s0.cur gone .out v).length b7],22,1,0,true⟩:=e9
 have n1:=gO (R:=aP) k8 (fun id h _=>b0 id h) (by intro id hh;simp only [bN] at hh;omega)
 have m6:=m5.keep (by simp) (fun id h _=>b0 id h)
 have o7:=(b0 _ dbBU).trans o0
 have o8:=(b0 _ dCU).trans o1
 have o9:=(b0 _ dKU).trans o2
 have p0:=(b0 _ dGU).trans o3
 have p1:=(b0 _ dRU).trans o4
 have p2:=(b0 _ (Ne.symm dUD)).trans o6
 have k0:a7.log= [U]:=by rw[k3,j9]
 have k4:=mM m2
 rw[qD (by first|exact hul|exact hdl)] at e9
 obtain⟨b4,a6⟩: ∃m:aA,m=(aA.mk a7.blks a7.next a7.hide (a7.log++M.log)):=⟨_,rfl⟩
 have n5:Ext M0 b4:=by rw[a6];exact Ext.join (X0) (l1)
 have j5:aB b4:=by rw[a6];exact j4
 have l3:b4.get bB=some ⟨[i64 (n:Int),ev,aD R 0 n (n+1),S,aD U 0 n (n+1),aD D 0 n (n+1),pt C 0,aD G 0 n (n+1)],53,8,0,true⟩:=by rw[a6];exact o7
 have p3:b4.get C=some ⟨[i64 (n:Int),aD K 0 (n*n*5) (n*n*5+1),.func (.func 46) ⟨[pt bB 0]⟩ ⟨[]⟩],73,3,0,true⟩:=by rw[a6];exact o8
 have p4:b4.get K=some ⟨s0.cur.map i64,3,1,0,true⟩:=by rw[a6];exact o9
 have p5:b4.get G=some ⟨gone.map Value.bool,4,1,0,true⟩:=by rw[a6];exact p0
 have p6:b4.get R=some ⟨rank.map i64,3,1,0,true⟩:=by rw[a6];exact p1
 have p7:b4.get U=some ⟨us.set v (.slice b6 (cL n s0.cur gone .out v).length b7),22,1,0,true⟩:=by rw[a6];exact e9
 have p8:b4.get D=some ⟨ds,22,1,0,true⟩:=by rw[a6];exact p2
 have m7:=m6.same (M':=b4) (fun id b h=>by rw[a6];exact h)
 have n2:=eM (R:=aP) (M':=b4) n1 (fun id b h=>by rw[a6];exact h)
 have c5:=congrArg aA.next a6
 dsimp only at c5
 obtain⟨a5,m3,f0,b1,e8,j6,r5⟩:=bH (o:=0+((v:Int):Int).toNat*1) (v:=(.bool true)) (new:=splice (gone.map Value.bool) (0+((v:Int):Int).toNat*1) [.bool true]) n5 nG j5 dS4 p5 rfl rfl (Nat.zero_le _) hof1 rfl
 replace f0:a5.get G=some ⟨splice (gone.map Value.bool) (0+((v:Int):Int).toNat*1) [.bool true],4,1,0,true⟩:=f0
 have n3:=gO (R:=aP) n2 (fun id h _=>b1 id h) (by intro id hh;simp only [bN] at hh;omega)
 have m8:=m7.keep (by simp) (fun id h _=>b1 id h)
 have l4:=(b1 _ dbBG).trans l3
 have p9:=(b1 _ dCG).trans p3
 have q1:=(b1 _ dKG).trans p4
 have q2:=(b1 _ (Ne.symm dGR)).trans p6
 have q3:=(b1 _ (Ne.symm dGU)).trans p7
 have l5:=(b1 _ (Ne.symm dGD)).trans p8
 have k5:=mM m3
 rw[Sl (by rw[hgl];exact hv)] at f0
 obtain⟨b2,a3⟩: ∃m:aA,m=aA.mk a5.blks a5.next a5.hide []:=⟨_,rfl⟩
 have n6:Ext (aA.mk M0.blks M0.next M0.hide []) b2:=by rw[a3];exact Ext.aside (e8)
 have k1:b2.log= []:=by rw[a3]
 have m1:b2.next=a5.next:=by rw[a3]
 have j7:aB b2:=by rw[a3];exact aB.log j6
 have c3:bB<a5.next:=by have h:=aA.lt_of_get l4;exact h
 have j2:b2.get bB=some ⟨[i64 (n:Int),ev,aD R 0 n (n+1),S,aD U 0 n (n+1),aD D 0 n (n+1),pt C 0,aD G 0 n (n+1)],53,8,0,true⟩:=by rw[a3];exact l4
 have l6:b2.get C=some ⟨[i64 (n:Int),aD K 0 (n*n*5) (n*n*5+1),.func (.func 46) ⟨[pt bB 0]⟩ ⟨[]⟩],73,3,0,true⟩:=by rw[a3];exact p9
 have l7:b2.get K=some ⟨s0.cur.map i64,3,1,0,true⟩:=by rw[a3];exact q1
 have l8:b2.get G=some ⟨(gone.set v true).map Value.bool,4,1,0,true⟩:=by rw[a3];exact f0
 have q5:b2.get R=some ⟨rank.map i64,3,1,0,true⟩:=by rw[a3];exact q2
 have q6:b2.get U=some ⟨us.set v (.slice b6 (cL n s0.cur gone .out v).length b7),22,1,0,true⟩:=by rw[a3];exact q3
 have k2:D<a5.next:=by have h:=aA.lt_of_get l5;exact h
 have q7:b2.get D=some ⟨ds,22,1,0,true⟩:=by rw[a3];exact l5
 have m9:=m8.same (M':=b2) (fun id b h=>by rw[a3];exact h)
 have n4:=eM (R:=aP) (M':=b2) n3 (fun id b h=>by rw[a3];exact h)
 have c6:=congrArg aA.next a3
 dsimp only at c6
 obtain⟨s7,s9,a9,k6,j8,d0,a8,d2,f6⟩:=aH (x:=((n,s0.cur,(gone.set v true)),Go.Am.Df.inn,v)) j7 Pp (⟨⟨_,_,_,rfl,⟨bB,C,G,n+1,i64 (n:Int),ev,aD R 0 n (n+1),S,aD U 0 n (n+1),aD D 0 n (n+1),rfl,j2,⟨C,K,n*n*5+1,.func (.func 46) ⟨[pt bB 0]⟩ ⟨[]⟩,rfl,by rw[hcl];exact l6,l7⟩,l8⟩,rfl,rfl⟩,hn60,hcl,hv,by rw[List.length_set];exact hgl⟩)
 have m0:=a8.next
 have f7:=dW (R:=aP) n4 a8
 have f2:=m9.ext a8
 have h3:=a8.old j2
 have h4:=a8.old l6
 have h5:=a8.old l7
 have h6:=a8.old l8
 have h7:=a8.old q5
 have h8:=a8.old q6
 have h9:=a8.old q7
 have k9:aP (cL n s0.cur (gone.set v true) .inn v) s7 (bP [(0,b2.next)] a9):=lI f6
 obtain⟨b9,c0,h2⟩:=aK.form k9
 subst h2
 have e1:a9.log= []:=by rw[<-d0];exact k1
 have c8:=n6.trans a8
 obtain⟨a0,e6,c2,a4,c9,d3,e3⟩:=bH (o:=0+((v:Int):Int).toNat*1) (v:=(.slice b9 (cL n s0.cur (gone.set v true) .inn v).length c0)) (new:=splice ds (0+((v:Int):Int).toNat*1) [.slice b9 (cL n s0.cur (gone.set v true) .inn v).length c0]) c8 nD d2 Lb h9 rfl rfl (Nat.zero_le _) hof2 rfl
 replace c2:a0.get D=some ⟨splice ds (0+((v:Int):Int).toNat*1) [.slice b9 (cL n s0.cur (gone.set v true) .inn v).length c0],22,1,0,true⟩:=c2
 have f8:=gO (R:=aP) f7 (fun id h _=>a4 id h) (by intro id hh;simp only [bN] at hh;omega)
 have f9:=gO (R:=aP) k9 (fun id h _=>a4 id h) (by intro id hh;simp only [bN] at hh;omega)
 have f3:=f2.keep (by simp) (fun id h _=>a4 id h)
 have i0:=(a4 _ dbBD).trans h3
 have i1:=(a4 _ dCD).trans h4
 have i2:=(a4 _ dKD).trans h5
 have i3:=(a4 _ dGD).trans h6
 have i4:=(a4 _ dRD).trans h7
 have i5:=(a4 _ dUD).trans h8
 have e2:a0.log= [D]:=by rw[e3,e1]
 have f1:=mM e6
 rw[qD (by first|exact hul|exact hdl)] at c2
 obtain⟨a2,a1⟩: ∃m:aA,m=(aA.mk a0.blks a0.next a0.hide (a0.log++a5.log)):=⟨_,rfl⟩
 have g3:Ext M0 a2:=by rw[a1];exact Ext.join (e8) (c9)
 have d4:aB a2:=by rw[a1];exact d3
 have i6:a2.get bB=some ⟨[i64 (n:Int),ev,aD R 0 n (n+1),S,aD U 0 n (n+1),aD D 0 n (n+1),pt C 0,aD G 0 n (n+1)],53,8,0,true⟩:=by rw[a1];exact i0
 have i7:a2.get C=some ⟨[i64 (n:Int),aD K 0 (n*n*5) (n*n*5+1),.func (.func 46) ⟨[pt bB 0]⟩ ⟨[]⟩],73,3,0,true⟩:=by rw[a1];exact i1
 have i8:a2.get K=some ⟨s0.cur.map i64,3,1,0,true⟩:=by rw[a1];exact i2
 have d1:a2.get G=some ⟨(gone.set v true).map Value.bool,4,1,0,true⟩:=by rw[a1];exact i3
 have i9:a2.get R=some ⟨rank.map i64,3,1,0,true⟩:=by rw[a1];exact i4
 have j0:a2.get U=some ⟨us.set v (.slice b6 (cL n s0.cur gone .out v).length b7),22,1,0,true⟩:=by rw[a1];exact i5
 have j1:a2.get D=some ⟨ds.set v (.slice b9 (cL n s0.cur (gone.set v true) .inn v).length c0),22,1,0,true⟩:=by rw[a1];exact c2
 have f5:=f3.same (M':=a2) (fun id b h=>by rw[a1];exact h)
 have g0:=eM (R:=aP) (M':=a2) f8 (fun id b h=>by rw[a1];exact h)
 have g1:=eM (R:=aP) (M':=a2) f9 (fun id b h=>by rw[a1];exact h)
 have c4:=congrArg aA.next a1
 dsimp only at c4
 have hkp: ∀id k,M.get id=some k-> ¬(id=(⟨bB,C,K,G,R,U,D⟩:BK).a S\/id∈ [bB,C,K,G,R,U,D])->a2.get id=some k:=fun id k g hown=>by
  have l9:id∉ [bB,C,K,G,R,U,D]:=fun e=>hown (.inr e)
  simp only [List.mem_cons,List.not_mem_nil,or_false,not_or] at l9
  obtain⟨h_bB,h_C,h_K,h_G,h_R,h_U,h_D⟩:=l9
  have g:R1.get id=some k:=by rw[b3];exact g
  have g:=b8.old g
  have g:=((fun id h _=>b0 id h) id h_U (aA.lt_of_get g)).trans g
  have g:b4.get id=some k:=by rw[a6];exact g
  have g:=((fun id h _=>b1 id h) id h_G (aA.lt_of_get g)).trans g
  have g:b2.get id=some k:=by rw[a3];exact g
  have g:=a8.old g
  have g:=((fun id h _=>a4 id h) id h_D (aA.lt_of_get g)).trans g
  have g:a2.get id=some k:=by rw[a1];exact g
  exact g
 have hlt:=hb.own_lt
 have hUn:aP (cL n s0.cur gone .out v) (.slice b6 (cL n s0.cur gone .out v).length b7) (bP ((⟨bB,C,K,G,R,U,D⟩:BK).hideS S) a2):=zU (R:=aP) hlt (by omega) g0
 have hDn:aP (cL n s0.cur (gone.set v true) .inn v) (.slice b9 (cL n s0.cur (gone.set v true) .inn v).length c0) (bP ((⟨bB,C,K,G,R,U,D⟩:BK).hideS S) a2):=zU (R:=aP) hlt (by omega) g1
 have r1:cM 53 73 42 22 46 ⟨⟨bB,C,K,G,R,U,D⟩,n,es,ev,S,⟨s0,gone.set v true,rank,up.set v (cL n s0.cur gone .out v),down.set v (cL n s0.cur (gone.set v true) .inn v)⟩,us.set v (.slice b6 (cL n s0.cur gone .out v).length b7),ds.set v (.slice b9 (cL n s0.cur (gone.set v true) .inn v).length c0)⟩ a2:=cM.next (x:=⟨⟨bB,C,K,G,R,U,D⟩,n,es,ev,S,⟨s0,gone,rank,up,down⟩,us,ds⟩) (s:=⟨s0,gone.set v true,rank,up.set v (cL n s0.cur gone .out v),down.set v (cL n s0.cur (gone.set v true) .inn v)⟩) hb hkp (.inl rfl) i6 i7 i8 d1 i9 j0 j1 (fC.of_acc (f5.less (fun x hx=>hx)) rfl rfl (Nat.le_of_eq h0.symm)) (fK.set (hb.up.ext (iA (x:=⟨⟨bB,C,K,G,R,U,D⟩,n,es,ev,S,⟨s0,gone,rank,up,down⟩,us,ds⟩) hkp (.inl rfl))) hUn) (fK.set (hb.down.ext (iA (x:=⟨⟨bB,C,K,G,R,U,D⟩,n,es,ev,S,⟨s0,gone,rank,up,down⟩,us,ds⟩) hkp (.inl rfl))) hDn)
 obtain⟨c7,e7,c1,d9,g4,d5,e4,e0,d6⟩:=mZ (P:=Try.prog) (o:=ob58) (f:=58) (x:=(⟨⟨bB,C,K,G,R,U,D⟩,n,es,ev,S,⟨s0,gone.set v true,rank,up.set v (cL n s0.cur gone .out v),down.set v (cL n s0.cur (gone.set v true) .inn v)⟩,us.set v (.slice b6 (cL n s0.cur gone .out v).length b7),ds.set v (.slice b9 (cL n s0.cur (gone.set v true) .inn v).length c0)⟩,v)) (l:= [pt bB 0,i64 (v:Int)]) d4 g3 (nG) (Nat.le_of_lt (aA.lt_of_get d1)) (⟨rfl,r1,hok _ _⟩) aAe
 obtain⟨g2,k7,g5,_,d8,d7,rfl⟩:=d6
 have hraw:oU Try.prog [] 60 Try.f24 q24 [pt bB 0,i64 v] M [aU 9 (aD U 0 n (n+1)),bL 17 (.slice b6 (cL n s0.cur gone .out v).length b7) b5,aM 19,lP 21 a7,aU 29 (aD G 0 n (n+1)),aM 33,lP 35 a5,aU 45 (aD D 0 n (n+1)),bL 53 (.slice b9 (cL n s0.cur (gone.set v true) .inn v).length c0) a9,aM 55,lP 57 a0,.at 63 ((bif c7 then 1 else 2),.val e7,c1)]=some (.normal,c1,[qL 29 bB 4 (aA.mk M.blks M.next M.hide []) (aD U 0 n (n+1)),qT (Nat.blt bB M.next),qC 55 [pt bB 0,.func (.func 56) ⟨[]⟩ ⟨[]⟩,i64 (v:Int)] (aA.mk M.blks M.next M.hide []) (.slice b6 (cL n s0.cur gone .out v).length b7) b5,.q (.inb (v:Int) n) (fM true),qS 22 U (0+((v:Int):Int).toNat*1) (.slice b6 (cL n s0.cur gone .out v).length b7) (aA.mk b5.blks b5.next M.hide b5.log) a7,qT (cQ [bB] a7.log),qL 35 bB 7 (aA.mk a7.blks a7.next M.hide (a7.log++M.log)) (aD G 0 n (n+1)),.q (.inb (v:Int) n) (fM true),qS 4 G (0+((v:Int):Int).toNat*1) (.bool true) (aA.mk a7.blks a7.next M.hide (a7.log++M.log)) a5,qL 29 bB 5 (aA.mk a5.blks a5.next a5.hide []) (aD D 0 n (n+1)),qT (Nat.blt bB a5.next),qC 55 [pt bB 0,.func (.func 57) ⟨[]⟩ ⟨[]⟩,i64 (v:Int)] (aA.mk a5.blks a5.next a5.hide []) (.slice b9 (cL n s0.cur (gone.set v true) .inn v).length c0) a9,.q (.inb (v:Int) n) (fM true),qS 22 D (0+((v:Int):Int).toNat*1) (.slice b9 (cL n s0.cur (gone.set v true) .inn v).length c0) (aA.mk a9.blks a9.next a5.hide a9.log) a0,qT (cQ [bB] a0.log),.cl 58 [pt bB 0,i64 (v:Int)] (aA.mk a0.blks a0.next a5.hide (a0.log++a5.log)) ((bif c7 then 1 else 2),.val e7,c1)]):=by cases c7<;>kernel_rfl
 have r8:aA.mk M.blks M.next M.hide []=R1:=b3.symm
 have r9:aA.mk b5.blks b5.next M.hide b5.log=b5:=by rw[(show M.hide=b5.hide from((X0).hide.trans (l0).hide.symm))]
 have s1:(aA.mk a7.blks a7.next M.hide (a7.log++M.log))=(aA.mk a7.blks a7.next a7.hide (a7.log++M.log)):=by rw[(show M.hide=a7.hide from((X0).hide.trans (l1).hide.symm))]
 have s2:(aA.mk a7.blks a7.next a7.hide (a7.log++M.log))=b4:=a6.symm
 have s3:aA.mk a5.blks a5.next a5.hide []=b2:=a3.symm
 have s4:aA.mk a9.blks a9.next a5.hide a9.log=a9:=by rw[(show a5.hide=a9.hide from((e8).hide.trans (c8).hide.symm))]
 have s5:(aA.mk a0.blks a0.next a5.hide (a0.log++a5.log))=(aA.mk a0.blks a0.next a0.hide (a0.log++a5.log)):=by rw[(show a5.hide=a0.hide from((e8).hide.trans (c9).hide.symm))]
 have s6:(aA.mk a0.blks a0.next a0.hide (a0.log++a5.log))=a2:=a1.symm
 try rw[r8] at hraw
 try rw[r9] at hraw
 try rw[s1] at hraw
 try rw[s2] at hraw
 try rw[s3] at hraw
 try rw[s4] at hraw
 try rw[s5] at hraw
 try rw[s6] at hraw
 have q9:rF (⟨bB,C,K,G,R,U,D⟩:BK) S M S a2:=⟨hkp,.inl rfl,by omega⟩
 exact⟨c1,Ev.told_none aJ aI Try.func24 Xe (by kernel_rfl) rK24 (fun B=>lO (gF 55 Q55 (Rw 58 (TC.ok (Q:=(Rv (ob58))) _) (gQ _)))) (fun _ _=>rfl) hraw (.inr rfl) (hk (lC mB g6 rfl) (hk (mE ltbBM) (hk (aN rfl r7 r2 l2) (hk (eW (by omega) (by omega)) (hk (eF m2) (hk (dZ (by rw[k0];simp<;>omega)) (hk (lC Se l3 rfl) (hk (eW (by omega) (by omega)) (hk (eF m3) (hk (lC mB j2 rfl) (hk (mE c3) (hk (aN rfl k6 j8 d0) (hk (eW (by omega) (by omega)) (hk (eF e6) (hk (dZ (by rw[e2];simp<;>omega)) (hk (d9 _ rfl) hn)))))))))))))))),g4,d5,g2,k7,g5,d8,q9.step e0 d7 e4⟩
def Wr(x:tJ)(v:Nat):Prop:=x.n<=60/\v<x.n/\ ∃c k,HG x.n c k x.s/\0<=c/\2*c<9223372036854775808/\k<300000000
abbrev ob24:OB (tJ×Nat):=Zf 53 73 42 22 46 (fun v:Nat=> [i64 ((v:Nat):Int)]) Wr (fun x v _ s=>s=sD x.n x.s v)
theorem Zx{x:tJ×Nat}{lv:List Value}{M:aA}(hM:aB M)(h:ob24.A x lv M)(hlo:ob24.lo x<=M.next): ∃v M',TO Try.prog 24 ob24 lv M v M':=by
 have hA:=h
 obtain⟨⟨⟨bB,C,K,G,R,U,D⟩,n,es,ev,S,⟨s0,gone,rank,up,down⟩,us,ds⟩,v⟩:=x
 obtain⟨rfl,hb,hn,hv,c,k,hG,a0,a1,hk⟩:=h
 simp only at hb hn hv hG
 have X0:Ext (cut G M) M:=Ext.cut hlo
 have hgl:gone.length=n:=hG.gone
 have hul:us.length=n:=hb.up.1.trans hG.up
 have hdl:ds.length=n:=hb.down.1.trans hG.down
 have hupl:up.length=n:=hG.up
 have hdnl:down.length=n:=hG.down
 have l1:(cL n s0.cur gone .out v).length<=5*n:=kW n s0.cur gone .out v n
 have l2:(cL n s0.cur (gone.set v true) .inn v).length<=5*n:=kW n s0.cur (gone.set v true) .inn v n
 have hr: ∀(g:List Bool) (w:Go.Am.Df),∀i∈cL n s0.cur g w v,0<=i/\i.toNat<s0.arcs.length:=fun g w i hi=>by
  obtain⟨h0,a,_,_,e,_⟩:=hG.hi.row hv hi
  exact⟨h0,(List.getElem?_eq_some_iff.1 e).1⟩
 have eu:(up.set v (cL n s0.cur gone .out v))[v]?=some (cL n s0.cur gone .out v):=List.getElem?_set_self (by omega)
 have ed:(down.set v (cL n s0.cur (gone.set v true) .inn v))[v]?=some (cL n s0.cur (gone.set v true) .inn v):=List.getElem?_set_self (by omega)
 have hok: ∀us ds,Wq ⟨⟨bB,C,K,G,R,U,D⟩,n,es,ev,S,⟨s0,gone.set v true,rank,up.set v (cL n s0.cur gone .out v),down.set v (cL n s0.cur (gone.set v true) .inn v)⟩,us,ds⟩ v:=fun us ds=>⟨hn,hv,⟨c,hG.hi,a0,a1⟩,by have:=hG.len;show s0.arcs.length<_;simp only at this;omega,cL n s0.cur gone .out v,cL n s0.cur (gone.set v true) .inn v,eu,ed,by omega,by omega,hr _ .inn,hr _ .out⟩
 obtain⟨M',h1,h2,h3,S',us',ds',h4,h5⟩:=hw24 v bB C K G R U D n es ev S s0 gone rank up down us ds hM X0 rfl hb hn hv hG.hi.len hgl (by omega) (by omega) hok (by omega) (by rw[List.length_map];omega) (by omega)
 refine⟨_,M',h1,_,hA,hlo,h2,h5.keep,S',us',ds',_,h4,h5.a,?_⟩
 rw[eu,ed]
 rfl
theorem reg(v bB C K G R U D n:Nat)(es:List E4)(ev S:Value)(s0:HB)(gone:List Bool)(rank:List Int)(up down:List (List Int))(us ds:List Value)(gq:Bool){M:aA}(hb:cM 53 73 42 22 46 ⟨⟨bB,C,K,G,R,U,D⟩,n,es,ev,S,⟨s0,gone,rank,up,down⟩,us,ds⟩ M)(hn60:n<=60)(hcl:s0.cur.length=n*n*5)(hgl:gone.length=n)(hul:v<us.length)(hv:v<n)(cc0:(decide ((v:Int)<(n:Int)))=true)(cc1:(gq)=true)(hc0:(gone.map Value.bool)[0+((v:Int):Int).toNat*1]?=some (.bool gq)): ∃T1,Rd Try.prog [] (q25.loopAt 0) Try.f25.ntmps (fr [(0,(pt bB 0)),(7,(aD G 0 n (n+1))),(8,(i64 (n:Int))),(9,(i64 (v:Int)))]) M .normal T1 M/\ [0,7,8,9].map T1.get= [some (pt bB 0),some (aD G 0 n (n+1)),some (i64 (n:Int)),some (i64 (IntKind.wrap .i64 ((v:Int)+(1:Int))))]:=by
 have gG:M.get G=some ⟨gone.map Value.bool,4,1,0,true⟩:=hb.gG
 exact Rd.told (tb:=[]) (n:=60) (F:=[aM 2,aM 6,aU 8 (.bool gq),aO 17]) aJ aI (aG Try.prog) (fun _ _=>rfl) (by kernel_rfl) (hk (bT cc0) (hk (qI (v:Int) n (by omega) (by omega)) (hq (qL 4 G (0+((v:Int):Int).toNat*1) M (.bool gq)) (iP (bW (a:=⟨G,0+((v:Int):Int).toNat*1,none⟩) Vd gG hc0)) (hk (bF (x:=!(gq)) (by rw[cc1];rfl)) hn))))
theorem reu(v bB C K G R U D n:Nat)(es:List E4)(ev S:Value)(s0:HB)(gone:List Bool)(rank:List Int)(up down:List (List Int))(us ds:List Value)(gq:Bool){M M0:aA}(hM:aB M)(X0:Ext M0 M)(h0:M0.next=G)(hb:cM 53 73 42 22 46 ⟨⟨bB,C,K,G,R,U,D⟩,n,es,ev,S,⟨s0,gone,rank,up,down⟩,us,ds⟩ M)(hn60:n<=60)(hcl:s0.cur.length=n*n*5)(hgl:gone.length=n)(hul:v<us.length)(hv:v<n)(cc0:(decide ((v:Int)<(n:Int)))=true)(cc1:(gq)=false)(hc0:(gone.map Value.bool)[0+((v:Int):Int).toNat*1]?=some (.bool gq))(hof1:0+((v:Int):Int).toNat*1+1<=(us).length): ∃T1 M',Rd Try.prog [] (q25.loopAt 0) Try.f25.ntmps (fr [(0,(pt bB 0)),(7,(aD G 0 n (n+1))),(8,(i64 (n:Int))),(9,(i64 (v:Int)))]) M .normal T1 M'/\ [0,7,8,9].map T1.get= [some (pt bB 0),some (aD G 0 n (n+1)),some (i64 (n:Int)),some (i64 (IntKind.wrap .i64 ((v:Int)+(1:Int))))]/\Ext M0 M'/\aB M'/\ ∃us2,cM 53 73 42 22 46 ⟨⟨bB,C,K,G,R,U,D⟩,n,es,ev,S,⟨s0,gone,rank,up.set v (cL n s0.cur gone .out v),down⟩,us2,ds⟩ M'/\rF (⟨bB,C,K,G,R,U,D⟩:BK) S M S M':=by
 have gbB:M.get bB=some ⟨[i64 n,ev,aD R 0 n (n+1),S,aD U 0 n (n+1),aD D 0 n (n+1),pt C 0,aD G 0 n (n+1)],53,8,0,true⟩:=hb.gB
 have gC:M.get C=some ⟨[i64 n,aD K 0 (n*n*5) (n*n*5+1),.func (.func 46) ⟨[pt bB 0]⟩ ⟨[]⟩],73,3,0,true⟩:=hb.gC
 have gK:M.get K=some ⟨s0.cur.map i64,3,1,0,true⟩:=hb.gK
 have gG:M.get G=some ⟨gone.map Value.bool,4,1,0,true⟩:=hb.gG
 have gR:M.get R=some ⟨rank.map i64,3,1,0,true⟩:=hb.gR
 have gU:M.get U=some ⟨us,22,1,0,true⟩:=hb.gU
 have gD:M.get D=some ⟨ds,22,1,0,true⟩:=hb.gD
 have nU:M0.next<=U:=by rw[h0];exact hb.lo U (by simp [BK.ids])
 have hnd:([bB,C,K,G,R,U,D]:List Nat).Nodup:=hb.nd
 obtain⟨dbBC,dbBK,dbBG,dbBR,dbBU,dbBD,dCK,dCG,dCR,dCU,dCD,dKG,dKR,dKU,dKD,dGR,dGU,dGD,dRU,dRD,dUD⟩:=Ze hnd
 have f8:cU 42 7 M0 [bB,C,K,G,R,U,D] s0.arcs.length ((s0.arcs.map kB).flatten) S M:=hb.acc.acc (Nat.le_of_eq h0)
 obtain⟨R1,a4⟩: ∃m:aA,m=aA.mk M.blks M.next M.hide []:=⟨_,rfl⟩
 have X3:Ext (aA.mk M0.blks M0.next M0.hide []) R1:=by rw[a4];exact Ext.aside (X0)
 have g3:R1.log= []:=by rw[a4]
 have g5:R1.next=M.next:=by rw[a4]
 have g0:aB R1:=by rw[a4];exact aB.log hM
 have ltbBM:bB<M.next:=by have h:=aA.lt_of_get gbB;exact h
 have g6:R1.get bB=some ⟨[i64 (n:Int),ev,aD R 0 n (n+1),S,aD U 0 n (n+1),aD D 0 n (n+1),pt C 0,aD G 0 n (n+1)],53,8,0,true⟩:=by rw[a4];exact gbB
 have g7:R1.get C=some ⟨[i64 (n:Int),aD K 0 (n*n*5) (n*n*5+1),.func (.func 46) ⟨[pt bB 0]⟩ ⟨[]⟩],73,3,0,true⟩:=by rw[a4];exact gC
 have g8:R1.get K=some ⟨s0.cur.map i64,3,1,0,true⟩:=by rw[a4];exact gK
 have g9:R1.get G=some ⟨gone.map Value.bool,4,1,0,true⟩:=by rw[a4];exact gG
 have d4:R1.get R=some ⟨rank.map i64,3,1,0,true⟩:=by rw[a4];exact gR
 have ltUM:U<M.next:=by have h:=aA.lt_of_get gU;exact h
 have d5:R1.get U=some ⟨us,22,1,0,true⟩:=by rw[a4];exact gU
 have d6:R1.get D=some ⟨ds,22,1,0,true⟩:=by rw[a4];exact gD
 have c6:=f8.same (M':=R1) (fun id b h=>by rw[a4];exact h)
 have b0:=congrArg aA.next a4
 dsimp only at b0
 obtain⟨Zi,h8,a5,h3,g2,c3,a6,b3,d0⟩:=aH (x:=((n,s0.cur,gone),Go.Am.Df.out,v)) g0 Pp (⟨⟨_,_,_,rfl,⟨bB,C,G,n+1,i64 (n:Int),ev,aD R 0 n (n+1),S,aD U 0 n (n+1),aD D 0 n (n+1),rfl,g6,⟨C,K,n*n*5+1,.func (.func 46) ⟨[pt bB 0]⟩ ⟨[]⟩,rfl,by rw[hcl];exact g7,g8⟩,g9⟩,rfl,rfl⟩,hn60,hcl,hv,hgl⟩)
 have g4:=a6.next
 have c7:=c6.ext a6
 have d7:=a6.old g6
 have d8:=a6.old g7
 have d9:=a6.old g8
 have e0:=a6.old g9
 have e1:=a6.old d4
 have e2:=a6.old d5
 have e3:=a6.old d6
 have c0:aP (cL n s0.cur gone .out v) Zi (bP [(0,R1.next)] a5):=lI d0
 obtain⟨a7,a8,b2⟩:=aK.form c0
 subst b2
 have b6:a5.log= []:=by rw[<-c3];exact g3
 have c1:=X3.trans a6
 obtain⟨a1,c5,b1,a2,c2,b4,b8⟩:=bH (o:=0+((v:Int):Int).toNat*1) (v:=(.slice a7 (cL n s0.cur gone .out v).length a8)) (new:=splice us (0+((v:Int):Int).toNat*1) [.slice a7 (cL n s0.cur gone .out v).length a8]) c1 nU b3 Lb e2 rfl rfl (Nat.zero_le _) hof1 rfl
 replace b1:a1.get U=some ⟨splice us (0+((v:Int):Int).toNat*1) [.slice a7 (cL n s0.cur gone .out v).length a8],22,1,0,true⟩:=b1
 have d1:=gO (R:=aP) c0 (fun id h _=>a2 id h) (by intro id hh;simp only [bN] at hh;omega)
 have c8:=c7.keep (by simp) (fun id h _=>a2 id h)
 have e4:=(a2 _ dbBU).trans d7
 have e5:=(a2 _ dCU).trans d8
 have e6:=(a2 _ dKU).trans d9
 have e7:=(a2 _ dGU).trans e0
 have e8:=(a2 _ dRU).trans e1
 have e9:=(a2 _ (Ne.symm dUD)).trans e3
 have b7:a1.log= [U]:=by rw[b8,b6]
 have b9:=mM c5
 rw[qD (by first|exact hul|exact hdl)] at b1
 obtain⟨a3,a0⟩: ∃m:aA,m=(aA.mk a1.blks a1.next a1.hide (a1.log++M.log)):=⟨_,rfl⟩
 have d3:Ext M0 a3:=by rw[a0];exact Ext.join (X0) (c2)
 have b5:aB a3:=by rw[a0];exact b4
 have f0:a3.get bB=some ⟨[i64 (n:Int),ev,aD R 0 n (n+1),S,aD U 0 n (n+1),aD D 0 n (n+1),pt C 0,aD G 0 n (n+1)],53,8,0,true⟩:=by rw[a0];exact e4
 have f1:a3.get C=some ⟨[i64 (n:Int),aD K 0 (n*n*5) (n*n*5+1),.func (.func 46) ⟨[pt bB 0]⟩ ⟨[]⟩],73,3,0,true⟩:=by rw[a0];exact e5
 have f2:a3.get K=some ⟨s0.cur.map i64,3,1,0,true⟩:=by rw[a0];exact e6
 have f3:a3.get G=some ⟨gone.map Value.bool,4,1,0,true⟩:=by rw[a0];exact e7
 have f5:a3.get R=some ⟨rank.map i64,3,1,0,true⟩:=by rw[a0];exact e8
 have f6:a3.get U=some ⟨us.set v (.slice a7 (cL n s0.cur gone .out v).length a8),22,1,0,true⟩:=by rw[a0];exact b1
 have f7:a3.get D=some ⟨ds,22,1,0,true⟩:=by rw[a0];exact e9
 have c9:=c8.same (M':=a3) (fun id b h=>by rw[a0];exact h)
 have d2:=eM (R:=aP) (M':=a3) d1 (fun id b h=>by rw[a0];exact h)
 have a9:=congrArg aA.next a0
 dsimp only at a9
 have hkp: ∀id k,M.get id=some k-> ¬(id=(⟨bB,C,K,G,R,U,D⟩:BK).a S\/id∈ [bB,C,K,G,R,U,D])->a3.get id=some k:=fun id k g hown=>by
  have c4:id∉ [bB,C,K,G,R,U,D]:=fun e=>hown (.inr e)
  simp only [List.mem_cons,List.not_mem_nil,or_false,not_or] at c4
  obtain⟨h_bB,h_C,h_K,h_G,h_R,h_U,h_D⟩:=c4
  have g:R1.get id=some k:=by rw[a4];exact g
  have g:=a6.old g
  have g:=((fun id h _=>a2 id h) id h_U (aA.lt_of_get g)).trans g
  have g:a3.get id=some k:=by rw[a0];exact g
  exact g
 have hlt:=hb.own_lt
 have hUn:aP (cL n s0.cur gone .out v) (.slice a7 (cL n s0.cur gone .out v).length a8) (bP ((⟨bB,C,K,G,R,U,D⟩:BK).hideS S) a3):=zU (R:=aP) hlt (by omega) d2
 have g1:cM 53 73 42 22 46 ⟨⟨bB,C,K,G,R,U,D⟩,n,es,ev,S,⟨s0,gone,rank,up.set v (cL n s0.cur gone .out v),down⟩,us.set v (.slice a7 (cL n s0.cur gone .out v).length a8),ds⟩ a3:=cM.next (x:=⟨⟨bB,C,K,G,R,U,D⟩,n,es,ev,S,⟨s0,gone,rank,up,down⟩,us,ds⟩) (s:=⟨s0,gone,rank,up.set v (cL n s0.cur gone .out v),down⟩) hb hkp (.inl rfl) f0 f1 f2 f3 f5 f6 f7 (fC.of_acc (c9.less (fun x hx=>hx)) rfl rfl (Nat.le_of_eq h0.symm)) (fK.set (hb.up.ext (iA (x:=⟨⟨bB,C,K,G,R,U,D⟩,n,es,ev,S,⟨s0,gone,rank,up,down⟩,us,ds⟩) hkp (.inl rfl))) hUn) (hb.down.ext (iA (x:=⟨⟨bB,C,K,G,R,U,D⟩,n,es,ev,S,⟨s0,gone,rank,up,down⟩,us,ds⟩) hkp (.inl rfl)))
 have f9:rF (⟨bB,C,K,G,R,U,D⟩:BK) S M S a3:=⟨hkp,.inl rfl,by omega⟩
 have hraw:oR Try.prog [] 60 Try.f25 (q25.loopAt 0) [(0,(pt bB 0)),(7,(aD G 0 n (n+1))),(8,(i64 (n:Int))),(9,(i64 (v:Int)))] M [aM 2,aM 6,aU 8 (.bool gq),aM 17,aU 27 (aD U 0 n (n+1)),bL 35 (.slice a7 (cL n s0.cur gone .out v).length a8) a5,aM 37,lP 39 a1] [0,7,8,9]=some (.normal,[some (pt bB 0),some (aD G 0 n (n+1)),some (i64 (n:Int)),some (i64 (IntKind.wrap .i64 ((v:Int)+(1:Int))))],aA.mk a1.blks a1.next M.hide (a1.log++M.log),[qT (decide ((v:Int)<(n:Int))),.q (.inb (v:Int) n) (fM true),qL 4 G (0+((v:Int):Int).toNat*1) M (.bool gq),qT (!(gq)),qL 29 bB 4 (aA.mk M.blks M.next M.hide []) (aD U 0 n (n+1)),qT (Nat.blt bB M.next),qC 55 [pt bB 0,.func (.func 56) ⟨[]⟩ ⟨[]⟩,i64 (v:Int)] (aA.mk M.blks M.next M.hide []) (.slice a7 (cL n s0.cur gone .out v).length a8) a5,.q (.inb (v:Int) n) (fM true),qS 22 U (0+((v:Int):Int).toNat*1) (.slice a7 (cL n s0.cur gone .out v).length a8) (aA.mk a5.blks a5.next M.hide a5.log) a1,qT (cQ [bB] a1.log)]):=by kernel_rfl
 have h4:aA.mk M.blks M.next M.hide []=R1:=a4.symm
 have h5:aA.mk a5.blks a5.next M.hide a5.log=a5:=by rw[(show M.hide=a5.hide from((X0).hide.trans (c1).hide.symm))]
 have h6:(aA.mk a1.blks a1.next M.hide (a1.log++M.log))=(aA.mk a1.blks a1.next a1.hide (a1.log++M.log)):=by rw[(show M.hide=a1.hide from((X0).hide.trans (c2).hide.symm))]
 have h7:(aA.mk a1.blks a1.next a1.hide (a1.log++M.log))=a3:=a0.symm
 try rw[h4] at hraw
 try rw[h5] at hraw
 try rw[h6] at hraw
 try rw[h7] at hraw
 obtain⟨T1,h1,h2⟩:=Rd.told aJ aI (fun B=>lO (gF 55 Q55 (gQ _))) (fun _ _=>rfl) hraw (hk (bT cc0) (hk (eW (by omega) (by omega)) (hk (iP (bW (a:=⟨G,0+((v:Int):Int).toNat*1,none⟩) Vd gG hc0)) (hk (bT (by rw[cc1];rfl)) (hk (lC mB g6 rfl) (hk (mE ltbBM) (hk (aN rfl h3 g2 c3) (hk (eW (by omega) (by omega)) (hk (eF c5) (hk (dZ (by rw[b7];simp<;>omega)) hn))))))))))
 exact⟨T1,a3,h1,h2,d3,b5,_,g1,f9⟩
theorem rex(v bB C K G R U D n:Nat){M:aA}(cc0:(decide ((v:Int)<(n:Int)))=false): ∃T1,Rd Try.prog [] (q25.loopAt 0) Try.f25.ntmps (fr [(0,(pt bB 0)),(7,(aD G 0 n (n+1))),(8,(i64 (n:Int))),(9,(i64 (v:Int)))]) M (.exit 0) T1 M/\ [0].map T1.get= [some (pt bB 0)]:=by
 exact Rd.told (tb:=[]) (n:=60) (F:=[aO 2]) aJ aI (aG Try.prog) (fun _ _=>rfl) (by kernel_rfl) (hk (bF cc0) hn)
theorem Sg(n:Nat)(s:Da)(i:Nat):(eH n s i).b=s.b/\(eH n s i).gone=s.gone/\(eH n s i).rank=s.rank/\(eH n s i).down=s.down/\(eH n s i).up.length=s.up.length:=by
 induction i with
 |zero=>exact⟨rfl,rfl,rfl,rfl,rfl⟩
 |succ i ih=>
  unfold eH
  cases dI (eH n s i).gone i
  ·simpa using ih
  ·exact ih
theorem aAC{bB C K G R U D n:Nat}{es:List E4}{ev S:Value}{s:Da}{us ds:List Value}{M0 M:aA}(hM:aB M)(X0:Ext M0 M)(h0:M0.next=G)(hb:cM 53 73 42 22 46 ⟨⟨bB,C,K,G,R,U,D⟩,n,es,ev,S,s,us,ds⟩ M)(hn60:n<=60)(hcl:s.b.cur.length=n*n*5)(hgl:s.gone.length=n)(hul:s.up.length=n):
  ∃M',bJ Try.prog [] (q25.loopAt 0) Try.f25.ntmps (fr [(0,pt bB 0),(7,aD G 0 n (n+1)),(8,i64 n),(9,i64 ((0:Nat):Int))]) M (.exit 0) (fr [(0,pt bB 0)]) M'/\Ext M0 M'/\aB M'/\ ∃us',cM 53 73 42 22 46 ⟨⟨bB,C,K,G,R,U,D⟩,n,es,ev,S,eH n s n,us',ds⟩ M'/\rF (⟨bB,C,K,G,R,U,D⟩:BK) S M S M':=by
 obtain⟨us',M',h1,h2,h3,h4,h5⟩:=bJ.for (P:=Try.prog) (GL:= []) (b:=q25.loopAt 0) (nt:=Try.f25.ntmps) (id:=0) (σ:=List Value) (n:=n) (Inv:=fun i a2 M1=>Ext M0 M1/\aB M1/\cM 53 73 42 22 46 ⟨⟨bB,C,K,G,R,U,D⟩,n,es,ev,S,eH n s i,a2,ds⟩ M1/\rF (⟨bB,C,K,G,R,U,D⟩:BK) S M S M1)
  (F:=fun i _=> [(0,pt bB 0),(7,aD G 0 n (n+1)),(8,i64 n),(9,i64 ((i:Nat):Int))])
  (O:=fun _=> [(0,pt bB 0)])
  (by
   rintro i a2 M1 hi ⟨X1,a5,a4,hF⟩
   obtain⟨e1,e2,e3,e4,e5⟩:=Sg n s i
   have hus:a2.length=n:=a4.up.1.trans (e5.trans hul)
   have a3:eH n s (i+1)=bif dI (eH n s i).gone i then eH n s i else{eH n s i with up:=(eH n s i).up.set i (cL n (eH n s i).b.cur (eH n s i).gone .out i)}:=rfl
   have a0:(eH n s i).b.cur.length=n*n*5:=by rw[e1];exact hcl
   have a1:(eH n s i).gone.length=n:=by rw[e2];exact hgl
   generalize hE:eH n s i=E at a4 a3 a0 a1
   obtain⟨s0,gone,rank,up,down⟩:=E
   simp only at a3 a0 a1
   have hgi:gone[i]?=some (dI gone i):=by unfold dI;rw[List.getElem?_eq_getElem (by omega)];rfl
   have hgc:(gone.map Value.bool)[0+((i:Int):Int).toNat*1]?=some (.bool (dI gone i)):=by simp [hgi]
   cases hq:dI gone i with
   |true=>
    rw[hq] at hgc a3
    obtain⟨T1,h1,h2⟩:=reg i bB C K G R U D n es ev S s0 gone rank up down a2 ds true (M:=M1) a4 hn60 a0 a1 (by omega) hi (decide_eq_true (by omega)) rfl hgc
    rw[aY (by omega)] at h2
    refine⟨a2,T1,M1,h1,h2,X1,a5,?_,hF⟩
    rw[a3];exact a4
   |false=>
    rw[hq] at hgc a3
    obtain⟨T1,M2,h1,h2,h3,h4,a6,h5,h6⟩:=reu i bB C K G R U D n es ev S s0 gone rank up down a2 ds false a5 X1 h0 a4 hn60 a0 a1 (by omega) hi (decide_eq_true (by omega)) rfl hgc (by omega)
    rw[aY (by omega)] at h2
    refine⟨a6,T1,M2,h1,h2,h3,h4,?_,hF.step h6.keep h6.a h6.next⟩
    rw[a3];exact h5)
  (by
   rintro a2 M1 ⟨X1,a5,a4,hF⟩
   exact rex n bB C K G R U D n (M:=M1) (decide_eq_false (by omega)))
  n 0 (by omega) (s:=us) (M:=M) ⟨X0,hM,hb,rF.refl _ _ _⟩
 exact⟨M',h1,h2,h3,us',h4,h5⟩
theorem rK25:Try.f25.results= #[]:=by kernel_rfl
theorem hw25(bB C K G R U D n:Nat)(es:List E4)(ev S:Value)(s:Da)(us ds:List Value){M M0:aA}(hM:aB M)(X0:Ext M0 M)(h0:M0.next=G)(hb:cM 53 73 42 22 46 ⟨⟨bB,C,K,G,R,U,D⟩,n,es,ev,S,s,us,ds⟩ M)(hn60:n<=60)(hcl:s.b.cur.length=n*n*5)(hgl:s.gone.length=n)(hul:s.up.length=n): ∃M',Ev Try.prog [] 25 [pt bB 0] M (.tuple #[]) M'/\Ext M0 M'/\aB M'/\ ∃us',cM 53 73 42 22 46 ⟨⟨bB,C,K,G,R,U,D⟩,n,es,ev,S,eH n s n,us',ds⟩ M'/\rF (⟨bB,C,K,G,R,U,D⟩:BK) S M S M':=by
 have gbB:M.get bB=some ⟨[i64 n,ev,aD R 0 n (n+1),S,aD U 0 n (n+1),aD D 0 n (n+1),pt C 0,aD G 0 n (n+1)],53,8,0,true⟩:=hb.gB
 obtain⟨M4,a1,X6,a2,u1,a3,a0⟩:=aAC hM X0 h0 hb hn60 hcl hgl hul
 have hraw:oU Try.prog [0] 60 Try.f25 q25 [pt bB 0] M [aU 7 (aD G 0 n (n+1)),.blk 12 [0,7,8,9] .normal (fr [(0,(pt bB 0))]) M4]=some (.normal,M4,[qL 35 bB 7 M (aD G 0 n (n+1)),.blk 0 (.loop (q25.loopAt 0)) Try.f25.ntmps [0,7,8,9] [some (pt bB 0),some (aD G 0 n (n+1)),some (i64 (n:Int)),some (i64 0)] M .normal (fr [(0,(pt bB 0))]) M4]):=by kernel_rfl
 exact⟨M4,Ev.told_none aJ aI Try.func25 Xf (by kernel_rfl) rK25 (fun B=>zN (gQ B) 0 a1) (fun _ h=>cF h) hraw (.inr rfl) (hk (lC Se gbB rfl) (hk (fH rfl) hn)),X6,a2,u1,a3,a0⟩
instance:On (fun _:Unit=>([]:List Value)):=⟨fun _=>rfl⟩
def okEn(x:tJ)(_:Unit):Prop:=x.n<=60/\x.s.b.cur.length=x.n*x.n*5/\x.s.gone.length=x.n/\x.s.up.length=x.n
abbrev ob25:OB (tJ×Unit):=Zf 53 73 42 22 46 (fun _:Unit=> []) okEn (fun x _ _ s=>s=eH x.n x.s x.n)
theorem Zy{x:tJ×Unit}{lv:List Value}{M:aA}(hM:aB M)(h:ob25.A x lv M)(hlo:ob25.lo x<=M.next): ∃v M',TO Try.prog 25 ob25 lv M v M':=by
 have hA:=h
 obtain⟨⟨⟨bB,C,K,G,R,U,D⟩,n,es,ev,S,s,us,ds⟩,u0⟩:=x
 obtain⟨rfl,hb,h1,h2,h3,h4⟩:=h
 simp only at hb h1 h2 h3 h4
 have X0:Ext (cut G M) M:=Ext.cut hlo
 obtain⟨M',q1,q2,q3,us',q4,q5⟩:=hw25 bB C K G R U D n es ev S s us ds hM X0 rfl hb h1 h2 h3 h4
 exact⟨_,M',q1,_,hA,hlo,q2,q5.keep,S,us',ds,_,q4,q5.a,rfl⟩
theorem r0b(bB C2 K2 n eb eo ec i:Nat)(es:List E4)(cur:List Int)(e:E4){M M0:aA}(hM:aB M)(X0:Ext M0 M)(gC2:M.get C2=some ⟨[i64 n,aD K2 0 (n*n*5) (n*n*5+1),.func (.func 47) ⟨[pt bB 0]⟩ ⟨[]⟩],73,3,0,true⟩)(gK2:M.get K2=some ⟨cur.map i64,3,1,0,true⟩)(nK2:M0.next<=K2)(dCK2:C2≠K2)(hY:zX 53 es (pt bB 0) (bP [(K2,K2+1)] M))(hev:aV es (aD eb eo es.length ec) (bP [] M))(hee:Uk es (i:Int)=e)(hir:0<=(i:Int)/\(i:Int)<(es.length:Int))(hcond:n<=60/\cur.length=n*n*5/\(0<=(mA (i:Int) e).f/\(mA (i:Int) e).f<(n:Int))/\(0<=(mA (i:Int) e).t/\(mA (i:Int) e).t<(n:Int))/\(0<=(mA (i:Int) e).m/\(mA (i:Int) e).m<5)/\(bC cur (iS n (mA (i:Int) e))= -1\/(0<=bC cur (iS n (mA (i:Int) e))/\bC cur (iS n (mA (i:Int) e))<(es.length:Int))))(cc0:(decide ((i:Int)<(es.length:Int)))=true): ∃T1 M',Rd Try.prog [] (q22.loopAt 0) Try.f22.ntmps (fr [(0,(pt bB 0)),(2,(aD eb eo es.length ec)),(3,(pt C2 0)),(23,(i64 (es.length:Int))),(24,(i64 (i:Int)))]) M .normal T1 M'/\ [0,2,3,23,24].map T1.get= [some (pt bB 0),some (aD eb eo es.length ec),some (pt C2 0),some (i64 (es.length:Int)),some (i64 (IntKind.wrap .i64 ((i:Int)+(1:Int))))]/\Ext M0 M'/\aB M'/\M'.get C2=some ⟨[i64 (n:Int),aD K2 0 (n*n*5) (n*n*5+1),.func (.func 47) ⟨[pt bB 0]⟩ ⟨[]⟩],73,3,0,true⟩/\M'.get K2=some ⟨(iD fT (⟨C2,K2,bB,n,cur,es,mA (i:Int) e,(i:Int)⟩:LX (List E4))).map i64,3,1,0,true⟩/\(∀id b,M.get id=some b->id≠K2->M'.get id=some b)/\M.next<=M'.next:=by
 obtain⟨w1,N2,M3,p4,l5,e6,E7,b5,F9⟩:=aH (x:=(es,(i:Int))) hM Ub (⟨⟨_,_,rfl,eI (R:=aV) hev,rfl⟩,hir⟩)
 have b6:=E7.next
 have a9:=dW (R:=(zX 53)) hY E7
 have a7:=E7.old gC2
 have a8:=E7.old gK2
 have b2:w1=(.agg ⟨[i64 e.f,i64 e.t,i64 e.m,i64 e.c,i64 (i:Int),i64 0,i64 0]⟩):=by have h9:w1= .agg ⟨kB (mA (i:Int) (Uk es (i:Int)))⟩:=F9;rw[hee] at h9;exact h9
 subst b2
 have b0:=X0.trans E7
 obtain⟨a6,Zi,a0,a5,b1,a3,b7,a1,a4⟩:=mZ (P:=Try.prog) (o:=Oa 73 47 fT (zX 53) (fun y i=>0<=i/\i<(y.length:Int))) (f:=48) (x:=(⟨C2,K2,bB,n,cur,es,mA ((i:Nat):Int) e,((i:Nat):Int)⟩:LX (List E4))) (l:= [pt C2 0,.agg ⟨[i64 e.f,i64 e.t,i64 e.m,i64 e.c,i64 ((i:Nat):Int),i64 0,i64 0]⟩,i64 ((i:Nat):Int)]) b5 b0 (nK2) (Nat.le_of_lt (aA.lt_of_get a8)) (⟨rfl,a7,a8,a9,dCK2,hcond⟩) Vc
 have b3:=a1 _ _ a7 (fun e=>dCK2 e)
 obtain⟨a2,gK3x⟩:=a4
 have b4:a0.get K2=some ⟨(iD fT (⟨C2,K2,bB,n,cur,es,mA (i:Int) e,(i:Int)⟩:LX (List E4))).map i64,3,1,0,true⟩:=gK3x
 subst a2
 have hraw:oR Try.prog [] 60 Try.f22 (q22.loopAt 0) [(0,(pt bB 0)),(2,(aD eb eo es.length ec)),(3,(pt C2 0)),(23,(i64 (es.length:Int))),(24,(i64 (i:Int)))] M [aM 2,bL 14 (.agg ⟨[i64 e.f,i64 e.t,i64 e.m,i64 e.c,i64 (i:Int),i64 0,i64 0]⟩) M3,.at 18 ((bif a6 then 1 else 2),.val (.bool (fB (fT es) (bC cur (iS n (mA (i:Int) e))) (mA (i:Int) e).c)),a0)] [0,2,3,23,24]=some (.normal,[some (pt bB 0),some (aD eb eo es.length ec),some (pt C2 0),some (i64 (es.length:Int)),some (i64 (IntKind.wrap .i64 ((i:Int)+(1:Int))))],a0,[qT (decide ((i:Int)<(es.length:Int))),qC 49 [aD eb eo es.length ec,i64 (i:Int)] M (.agg ⟨[i64 e.f,i64 e.t,i64 e.m,i64 e.c,i64 (i:Int),i64 0,i64 0]⟩) M3,.cl 48 [pt C2 0,.agg ⟨[i64 e.f,i64 e.t,i64 e.m,i64 e.c,i64 (i:Int),i64 0,i64 0]⟩,i64 (i:Int)] M3 ((bif a6 then 1 else 2),.val (.bool (fB (fT es) (bC cur (iS n (mA (i:Int) e))) (mA (i:Int) e).c)),a0)]):=by cases a6<;>kernel_rfl
 obtain⟨T1,h1,h2⟩:=Rd.told aJ aI (fun B=>lO (Rw 48 (TC.ok (Q:=(Rv (Oa 73 47 fT (zX 53) (fun y i=>0<=i/\i<(y.length:Int))))) _) (gF 49 Q49 (gQ _)))) (fun _ _=>rfl) hraw (hk (bT cc0) (hk (aN rfl p4 l5 e6) (hk (a5 _ rfl) hn)))
 exact⟨T1,a0,h1,h2,b1,a3,b3,b4,fun id b g h=>a1 id b (E7.old g) h,by omega⟩
theorem r0x(bB C2 n i:Nat)(ea:Option Addr)(ec:Nat)(es:List E4){M:aA}(cc0:(decide ((i:Int)<(es.length:Int)))=false): ∃T1,Rd Try.prog [] (q22.loopAt 0) Try.f22.ntmps (fr [(0,(pt bB 0)),(2,(.slice ea es.length ec)),(3,(pt C2 0)),(23,(i64 (es.length:Int))),(24,(i64 (i:Int)))]) M (.exit 0) T1 M/\ [0,2,3].map T1.get= [some (pt bB 0),some (.slice ea es.length ec),some (pt C2 0)]:=by
 exact Rd.told (tb:=[]) (n:=60) (F:=[aO 2]) aJ aI (aG Try.prog) (fun _ _=>rfl) (by kernel_rfl) (hk (bF cc0) hn)
theorem Vm{bB C2 K2 n ec:Nat}{ea:Option Addr}{es:List E4}{M0 M:aA}(hM:aB M)(X0:Ext M0 M)(gC2:M.get C2=some ⟨[i64 n,aD K2 0 (n*n*5) (n*n*5+1),.func (.func 47) ⟨[pt bB 0]⟩ ⟨[]⟩],73,3,0,true⟩)(gK2:M.get K2=some ⟨(kU n).map i64,3,1,0,true⟩)(nK2:M0.next<=K2)(dCK2:C2≠K2)(hY:zX 53 es (pt bB 0) (bP [(K2,K2+1)] M))(hev:aV es (.slice ea es.length ec) (bP [(K2,K2+1)] M))(hn60:n<=60)(hes:xV n es)(hl:es.length<=400):
  ∃M',bJ Try.prog [] (q22.loopAt 0) Try.f22.ntmps (fr [(0,pt bB 0),(2,.slice ea es.length ec),(3,pt C2 0),(23,i64 es.length),(24,i64 ((0:Nat):Int))]) M (.exit 0) (fr [(0,pt bB 0),(2,.slice ea es.length ec),(3,pt C2 0)]) M'/\Ext M0 M'/\aB M'/\M'.get C2=some ⟨[i64 n,aD K2 0 (n*n*5) (n*n*5+1),.func (.func 47) ⟨[pt bB 0]⟩ ⟨[]⟩],73,3,0,true⟩/\M'.get K2=some ⟨(dY n es es.length).map i64,3,1,0,true⟩/\(∀id b,M.get id=some b->id≠K2->M'.get id=some b)/\M.next<=M'.next:=by
 obtain⟨_,M',h1,h2,h3,h4,h5,h6,h7⟩:=bJ.for (P:=Try.prog) (GL:= []) (b:=q22.loopAt 0) (nt:=Try.f22.ntmps) (id:=0) (σ:=Unit) (n:=es.length) (Inv:=fun i _ M1=>Ext M0 M1/\aB M1/\M1.get C2=some ⟨[i64 n,aD K2 0 (n*n*5) (n*n*5+1),.func (.func 47) ⟨[pt bB 0]⟩ ⟨[]⟩],73,3,0,true⟩/\M1.get K2=some ⟨(dY n es i).map i64,3,1,0,true⟩/\(∀id b,M.get id=some b->id≠K2->M1.get id=some b)/\M.next<=M1.next)
  (F:=fun i _=> [(0,pt bB 0),(2,.slice ea es.length ec),(3,pt C2 0),(23,i64 es.length),(24,i64 ((i:Nat):Int))])
  (O:=fun _=> [(0,pt bB 0),(2,.slice ea es.length ec),(3,pt C2 0)])
  (by
   rintro i _ M1 hi ⟨X1,a0,g1,g2,hk,hn⟩
   have hh: ∀id b,(bP [(K2,K2+1)] M).get id=some b->(bP [(K2,K2+1)] M1).get id=some b:=fun id b hg=>by
    rw[bS] at hg⊢
    exact⟨hg.1,hk id b hg.2 (fun e=>hg.1 (by rw[e];simp [aZ,Nat.ble_eq,Nat.blt_eq]))⟩
   have a2:=AP.ext (R:=zX 53) hh hY
   have a1:aV es (.slice ea es.length ec) (bP [] M1):=eI (R:=aV) (AP.ext (R:=aV) hh hev)
   obtain⟨eb,eo,rfl,_⟩:=cD a1 (by omega)
   have ht:es[i]?=some es[i]:=List.getElem?_eq_getElem hi
   obtain⟨q1,q2,q3,q4⟩:=hes _ (List.getElem_mem hi)
   have hp:=pZ q1 q2 q3
   have hcl:=sC n es i
   have hkl:Pc n es[i]<(dY n es i).length:=by rw[hcl];unfold Pc;omega
   have hok:bC (dY n es i) (Pc n es[i])= -1\/(0<=bC (dY n es i) (Pc n es[i])/\bC (dY n es i) (Pc n es[i])<(es.length:Int)):=by
    rcases wA n es i _ _ (kK hkl) with e|⟨e1,e2,_⟩
    ·exact .inl e
    ·exact .inr ⟨e1,by omega⟩
   obtain⟨T1,M2,h1,h2,h3,h4,h5,h6,h7,h8⟩:=r0b bB C2 K2 n eb eo ec i es (dY n es i) es[i] a0 X1 g1 g2 nK2 dCK2 a2 a1 (Au (by rw[Int.toNat_natCast];exact ht)) ⟨by omega,by omega⟩ ⟨hn60,hcl,q1,q2,q3,hok⟩ (decide_eq_true (by omega))
   rw[aY (by omega)] at h2
   refine⟨(),T1,M2,h1,h2,h3,h4,h5,?_,fun id b g h=>h7 id b (hk id b g h) h,by omega⟩
   rw[h6]
   have:iD fT (⟨C2,K2,bB,n,dY n es i,es,mA (i:Int) es[i],(i:Int)⟩:LX (List E4))=dY n es (i+1):=by
    rw[dY,ht];rfl
   rw[this])
  (by
   rintro _ M1 ⟨X1,a0,_⟩
   exact r0x bB C2 n es.length ea ec es (M:=M1) (decide_eq_false (by omega)))
  es.length 0 (by omega) (s:=()) (M:=M) ⟨X0,hM,gC2,gK2,fun _ _ g _=>g,Nat.le_refl _⟩
 exact⟨M',h1,h2,h3,h4,h5,h6,h7⟩
theorem r2o(bB C K G R U D n K2 eb eo ec k:Nat)(es:List E4)(ev S:Value)(s0:HB)(gone:List Bool)(rank:List Int)(up down:List (List Int))(us ds:List Value)(lst:List Int)(e:E4)(z:Int){M M0:aA}(hM:aB M)(X0:Ext M0 M)(h0:M0.next=G)(hb:cM 53 73 42 22 46 ⟨⟨bB,C,K,G,R,U,D⟩,n,es,ev,S,⟨s0,gone,rank,up,down⟩,us,ds⟩ M)(gK2:M.get K2=some ⟨lst.map i64,3,1,0,true⟩)(hK2o: ¬(K2=(⟨bB,C,K,G,R,U,D⟩:BK).a S\/K2∈(⟨bB,C,K,G,R,U,D⟩:BK).ids))(hev:aV es (aD eb eo es.length ec) (bP [] M))(hee:Uk es z=e)(hir:0<=z/\z<(es.length:Int))(hok:Lr ⟨⟨bB,C,K,G,R,U,D⟩,n,es,ev,S,⟨s0,gone,rank,up,down⟩,us,ds⟩ (mA z e))(cc0:(decide ((k:Int)<((n*n*5:Nat):Int)))=true)(cc1:(z==(-1:Int))=false)(hc0:(lst.map i64)[0+((k:Int):Int).toNat*1]?=some (i64 z)): ∃T1 M' S14 u15 d16,Rd Try.prog [] (q22.loopAt 2) Try.f22.ntmps (fr [(0,(pt bB 0)),(2,(aD eb eo es.length ec)),(37,(aD K2 0 (n*n*5) (n*n*5+1))),(38,(i64 ((n*n*5:Nat):Int))),(39,(i64 (k:Int)))]) M .normal T1 M'/\ [0,2,37,38,39].map T1.get= [some (pt bB 0),some (aD eb eo es.length ec),some (aD K2 0 (n*n*5) (n*n*5+1)),some (i64 ((n*n*5:Nat):Int)),some (i64 (IntKind.wrap .i64 ((k:Int)+(1:Int))))]/\Ext M0 M'/\aB M'/\cM 53 73 42 22 46 ⟨⟨bB,C,K,G,R,U,D⟩,n,es,ev,S14,⟨kN n s0 (mA z e),gone,rank,up,down⟩,u15,d16⟩ M'/\(∀id b,M.get id=some b-> ¬(id=(⟨bB,C,K,G,R,U,D⟩:BK).a S\/id∈(⟨bB,C,K,G,R,U,D⟩:BK).ids)->M'.get id=some b)/\((⟨bB,C,K,G,R,U,D⟩:BK).a S14=(⟨bB,C,K,G,R,U,D⟩:BK).a S\/(⟨bB,C,K,G,R,U,D⟩:BK).a S14=(⟨bB,C,K,G,R,U,D⟩:BK).B\/M.next<=(⟨bB,C,K,G,R,U,D⟩:BK).a S14)/\M.next<=M'.next:=by
 obtain⟨w1,N2,M3,p4,l5,e6,E7,b1,F9⟩:=aH (x:=(es,z)) hM Ub (⟨⟨_,_,rfl,eI (R:=aV) hev,rfl⟩,hir⟩)
 have b2:=E7.next
 have b0:w1=(.agg ⟨[i64 e.f,i64 e.t,i64 e.m,i64 e.c,i64 z,i64 0,i64 0]⟩):=by have h9:w1= .agg ⟨kB (mA (z) (Uk es (z)))⟩:=F9;rw[hee] at h9;exact h9
 subst b0
 have a8:=X0.trans E7
 obtain⟨a7,Tn,a0,a5,a9,a1,b3,a6,a2⟩:=mZ (P:=Try.prog) (o:=ob50) (f:=50) (x:=(⟨⟨bB,C,K,G,R,U,D⟩,n,es,ev,S,⟨s0,gone,rank,up,down⟩,us,ds⟩,(mA z e))) (l:= [pt bB 0,.agg ⟨[i64 e.f,i64 e.t,i64 e.m,i64 e.c,i64 z,i64 0,i64 0]⟩]) b1 a8 (by rw[h0];exact Nat.le_refl _) (Nat.le_of_lt (hb.old (fun id b h=>(E7.old h))).gGlt) (⟨rfl,hb.old (fun id b h=>(E7.old h)),hok⟩) Uc
 obtain⟨S14,u15,d16,_,a4,a3,rfl⟩:=a2
 have hraw:oR Try.prog [] 60 Try.f22 (q22.loopAt 2) [(0,(pt bB 0)),(2,(aD eb eo es.length ec)),(37,(aD K2 0 (n*n*5) (n*n*5+1))),(38,(i64 ((n*n*5:Nat):Int))),(39,(i64 (k:Int)))] M [aM 2,aM 4,aU 6 (i64 z),aM 13,bL 21 (.agg ⟨[i64 e.f,i64 e.t,i64 e.m,i64 e.c,i64 z,i64 0,i64 0]⟩) M3,.at 23 ((bif a7 then 1 else 2),.val Tn,a0)] [0,2,37,38,39]=some (.normal,[some (pt bB 0),some (aD eb eo es.length ec),some (aD K2 0 (n*n*5) (n*n*5+1)),some (i64 ((n*n*5:Nat):Int)),some (i64 (IntKind.wrap .i64 ((k:Int)+(1:Int))))],a0,[qT (decide ((k:Int)<((n*n*5:Nat):Int))),.q (.inb (k:Int) (n*n*5)) (fM true),qL 3 K2 (0+((k:Int):Int).toNat*1) M (i64 z),qT (!(z==(-1:Int))),qC 49 [aD eb eo es.length ec,i64 z] M (.agg ⟨[i64 e.f,i64 e.t,i64 e.m,i64 e.c,i64 z,i64 0,i64 0]⟩) M3,.cl 50 [pt bB 0,.agg ⟨[i64 e.f,i64 e.t,i64 e.m,i64 e.c,i64 z,i64 0,i64 0]⟩] M3 ((bif a7 then 1 else 2),.val Tn,a0)]):=by cases a7<;>kernel_rfl
 obtain⟨T1,h1,h2⟩:=Rd.told aJ aI (fun B=>lO (gF 49 Q49 (Rw 50 (TC.ok (Q:=(Rv (ob50))) _) (gQ _)))) (fun _ _=>rfl) hraw (hk (bT cc0) (hk (eW (by omega) (by simp at cc0;omega)) (hk (iP (bW (a:=⟨K2,0+((k:Int):Int).toNat*1,none⟩) cO gK2 hc0)) (hk (bT (by rw[cc1];rfl)) (hk (aN rfl p4 l5 e6) (hk (a5 _ rfl) hn))))))
 exact⟨T1,a0,S14,u15,d16,h1,h2,a9,a1,a4,fun id b g h=>a6 id b (E7.old g) h,a3.imp id (Or.imp id (Nat.le_trans (by omega))),by omega⟩
theorem Rg(bB C K G R U D n K2:Nat)(ea:Option Addr)(ec k:Nat)(es:List E4)(ev S:Value)(s0:HB)(gone:List Bool)(rank:List Int)(up down:List (List Int))(us ds:List Value)(lst:List Int)(z:Int)(M:aA):oR Try.prog [] 60 Try.f22 (q22.loopAt 2) [(0,(pt bB 0)),(2,(.slice ea es.length ec)),(37,(aD K2 0 (n*n*5) (n*n*5+1))),(38,(i64 ((n*n*5:Nat):Int))),(39,(i64 (k:Int)))] M [aM 2,aM 4,aU 6 (i64 z),aO 13] [0,2,37,38,39]=some (.normal,[some (pt bB 0),some (.slice ea es.length ec),some (aD K2 0 (n*n*5) (n*n*5+1)),some (i64 ((n*n*5:Nat):Int)),some (i64 (IntKind.wrap .i64 ((k:Int)+(1:Int))))],M,[qT (decide ((k:Int)<((n*n*5:Nat):Int))),.q (.inb (k:Int) (n*n*5)) (fM true),qL 3 K2 (0+((k:Int):Int).toNat*1) M (i64 z),qF (!(z==(-1:Int)))]):=by kernel_rfl
theorem r2n'(bB C K G R U D n K2:Nat)(ea:Option Addr)(ec k:Nat)(es:List E4)(ev S:Value)(s0:HB)(gone:List Bool)(rank:List Int)(up down:List (List Int))(us ds:List Value)(lst:List Int)(z:Int){M:aA}(hb:cM 53 73 42 22 46 ⟨⟨bB,C,K,G,R,U,D⟩,n,es,ev,S,⟨s0,gone,rank,up,down⟩,us,ds⟩ M)(gK2:M.get K2=some ⟨lst.map i64,3,1,0,true⟩)(cc0:(decide ((k:Int)<((n*n*5:Nat):Int)))=true)(cc1:(z==(-1:Int))=true)(hc0:(lst.map i64)[0+((k:Int):Int).toNat*1]?=some (i64 z)): ∃T1,Rd Try.prog [] (q22.loopAt 2) Try.f22.ntmps (fr [(0,(pt bB 0)),(2,(.slice ea es.length ec)),(37,(aD K2 0 (n*n*5) (n*n*5+1))),(38,(i64 ((n*n*5:Nat):Int))),(39,(i64 (k:Int)))]) M .normal T1 M/\ [0,2,37,38,39].map T1.get= [some (pt bB 0),some (.slice ea es.length ec),some (aD K2 0 (n*n*5) (n*n*5+1)),some (i64 ((n*n*5:Nat):Int)),some (i64 (IntKind.wrap .i64 ((k:Int)+(1:Int))))]:=by
 have hraw:=Rg bB C K G R U D n K2 ea ec k es ev S s0 gone rank up down us ds lst z M
 obtain⟨T1,h1,h2⟩:=Rd.told aJ aI (aG Try.prog) (fun _ _=>rfl) hraw (hk (bT cc0) (hk (eW (by omega) (by simp at cc0;omega)) (hk (iP (bW (a:=⟨K2,0+((k:Int):Int).toNat*1,none⟩) cO gK2 hc0)) (hk (bF (by rw[cc1];rfl)) hn))))
 exact⟨T1,h1,h2⟩
theorem Rh(bB n K2:Nat)(ea:Option Addr)(ec k:Nat)(es:List E4)(M:aA):oR Try.prog [] 60 Try.f22 (q22.loopAt 2) [(0,(pt bB 0)),(2,(.slice ea es.length ec)),(37,(aD K2 0 (n*n*5) (n*n*5+1))),(38,(i64 ((n*n*5:Nat):Int))),(39,(i64 (k:Int)))] M [aO 2] []=some ((.exit 2),[],M,[qF (decide ((k:Int)<((n*n*5:Nat):Int)))]):=by kernel_rfl
theorem r2x'(bB n K2:Nat)(ea:Option Addr)(ec k:Nat)(es:List E4){M:aA}(cc0:(decide ((k:Int)<((n*n*5:Nat):Int)))=false): ∃T1,Rd Try.prog [] (q22.loopAt 2) Try.f22.ntmps (fr [(0,(pt bB 0)),(2,(.slice ea es.length ec)),(37,(aD K2 0 (n*n*5) (n*n*5+1))),(38,(i64 ((n*n*5:Nat):Int))),(39,(i64 (k:Int)))]) M (.exit 2) T1 M/\ [].map T1.get= []:=by
 have hraw:=Rh bB n K2 ea ec k es M
 obtain⟨T1,h1,h2⟩:=Rd.told aJ aI (aG Try.prog) (fun _ _=>rfl) hraw (hk (bF cc0) hn)
 exact⟨T1,h1,h2⟩
theorem Wt{x:tJ}{M M':aA}{K2:Nat}(hb:cM 53 73 42 22 46 x M)(hE: ∀id b,M.get id=some b->M'.get id=some b)(hK:M.next<=K2):zX 53 x.es (pt x.k.B 0) (bP [(K2,K2+1)] M')/\aV x.es x.ev (bP [(K2,K2+1)] M'):=by
 have hh: ∀id b,M.get id=some b->(bP [(K2,K2+1)] M').get id=some b:=fun id b hg=>bS.2 ⟨Ge (by have:=aA.lt_of_get hg;omega),hE id b hg⟩
 have he:=AP.ext (R:=aV) hh (eI (R:=aV) hb.es)
 exact⟨⟨x.k.B,_,_,_,_,_,_,_,_,rfl,hh _ _ hb.gB,he⟩,he⟩
theorem Vu{bB C K G R U D n K2 ec:Nat}{ea:Option Addr}{es:List E4}{ev S:Value}{gone:List Bool}{rank:List Int}{up down:List (List Int)}{us ds:List Value}{lst:List Int}{M0 M:aA}(hM:aB M)(X0:Ext M0 M)(h0:M0.next=G)(hb:cM 53 73 42 22 46 ⟨⟨bB,C,K,G,R,U,D⟩,n,es,ev,S,⟨⟨[],kU n⟩,gone,rank,up,down⟩,us,ds⟩ M)(gK2:M.get K2=some ⟨lst.map i64,3,1,0,true⟩)(hK2o: ¬(K2=(⟨bB,C,K,G,R,U,D⟩:BK).a S\/K2∈(⟨bB,C,K,G,R,U,D⟩:BK).ids))(hev:aV es (.slice ea es.length ec) (bP ((⟨bB,C,K,G,R,U,D⟩:BK).hideS S) M))(hn60:n<=60)(hes:xV n es)(hll:lst.length=n*n*5)(hsp: ∀(k:Nat) (x:Int),lst[k]?=some x->x= -1\/(0<=x/\ ∃e,es[x.toNat]?=some e)):
  ∃M',bJ Try.prog [] (q22.loopAt 2) Try.f22.ntmps (fr [(0,pt bB 0),(2,.slice ea es.length ec),(37,aD K2 0 (n*n*5) (n*n*5+1)),(38,i64 ((n*n*5:Nat):Int)),(39,i64 ((0:Nat):Int))]) M (.exit 2) (fr []) M'/\Ext M0 M'/\aB M'/\ ∃S' us' ds',cM 53 73 42 22 46 ⟨⟨bB,C,K,G,R,U,D⟩,n,es,ev,S',⟨nT n es lst,gone,rank,up,down⟩,us',ds'⟩ M'/\rF (⟨bB,C,K,G,R,U,D⟩:BK) S M S' M':=by
 have hnn:n*n*5<=60*60*5:=Nat.mul_le_mul_right _ (Nat.mul_le_mul hn60 hn60)
 obtain⟨⟨S',us',ds'⟩,M',h1,h2,h3,h4,h5⟩:=bJ.for (P:=Try.prog) (GL:= []) (b:=q22.loopAt 2) (nt:=Try.f22.ntmps) (id:=2) (σ:=Value×List Value×List Value) (n:=n*n*5) (Inv:=fun k σ M1=>Ext M0 M1/\aB M1/\cM 53 73 42 22 46 ⟨⟨bB,C,K,G,R,U,D⟩,n,es,ev,σ.1,⟨nT n es (lst.take k),gone,rank,up,down⟩,σ.2.1,σ.2.2⟩ M1/\rF (⟨bB,C,K,G,R,U,D⟩:BK) S M σ.1 M1)
  (F:=fun k _=> [(0,pt bB 0),(2,.slice ea es.length ec),(37,aD K2 0 (n*n*5) (n*n*5+1)),(38,i64 ((n*n*5:Nat):Int)),(39,i64 ((k:Nat):Int))])
  (O:=fun _=> [])
  (by
   rintro k ⟨S1,a2,a0⟩ M1 hk ⟨X1,a4,a1,hF⟩
   simp only at a1 hF
   have hK2l:=aA.lt_of_get gK2
   have a5:=hF.keep _ _ gK2 hK2o
   have hK1o: ¬(K2=(⟨bB,C,K,G,R,U,D⟩:BK).a S1\/K2∈(⟨bB,C,K,G,R,U,D⟩:BK).ids):=by
    rintro(e|e)
    ·rcases hF.a with q|q|q
     ·exact hK2o (.inl (e.trans q))
     ·exact hK2o (.inr (by rw[e,q];simp [BK.ids]))
     ·omega
    ·exact hK2o (.inr e)
   have a3:aV es (.slice ea es.length ec) (bP [] M1):=eI (R:=aV) (AP.ext (R:=aV) hF.hids hev)
   have ht:lst[k]?=some lst[k]:=List.getElem?_eq_getElem (by omega)
   have hgc:(lst.map i64)[0+((k:Int):Int).toNat*1]?=some (i64 lst[k]):=by rw[Nat.zero_add,Nat.mul_one,Int.toNat_natCast,List.getElem?_map,ht];rfl
   obtain⟨q1,q2⟩:=HI.begin (C:=2147483647) hes (by omega) (lst.take k)
   have a6:nT n es (lst.take (k+1))=kD n es (nT n es (lst.take k)) lst[k]:=by
    unfold nT
    rw[List.take_succ_eq_append_getElem (by omega),List.foldl_append];rfl
   cases hz:lst[k]==(-1:Int) with
   |true=>
    by_cases hee:es.length=0
    ·obtain⟨T1,h1,h2⟩:=r2n' (M:=M1) bB C K G R U D n K2 ea ec k es ev S1 _ gone rank up down a2 a0 lst lst[k] a1 a5 (decide_eq_true (by omega)) hz hgc
     rw[aY (by omega)] at h2
     refine⟨(S1,a2,a0),T1,M1,h1,h2,X1,a4,?_,hF⟩
     rw[a6,kD,hz];exact a1
    ·obtain⟨T1,h1,h2⟩:=r2n' (M:=M1) bB C K G R U D n K2 ea ec k es ev S1 _ gone rank up down a2 a0 lst lst[k] a1 a5 (decide_eq_true (by omega)) hz hgc
     rw[aY (by omega)] at h2
     refine⟨(S1,a2,a0),T1,M1,h1,h2,X1,a4,?_,hF⟩
     rw[a6,kD,hz];exact a1
   |false=>
    rcases hsp k _ ht with e|⟨e1,ee,e2⟩
    ·rw[e] at hz;cases hz
    ·have hlt:=(List.getElem?_eq_some_iff.1 e2).1
     obtain⟨eb,eo,rfl,_⟩:=cD a3 (by omega)
     obtain⟨p1,p2,p3,_⟩:=hes _ (List.mem_of_getElem? e2)
     have hok:Lr ⟨⟨bB,C,K,G,R,U,D⟩,n,es,ev,S1,⟨nT n es (lst.take k),gone,rank,up,down⟩,a2,a0⟩ (mA lst[k] ee):=⟨hn60,⟨_,q1⟩,by show(nT n es (lst.take k)).arcs.length<_;rw[List.length_take] at q2;omega,p1,p2,p3⟩
     obtain⟨T1,M2,S2,a8,a7,h1,h2,h3,h4,h5,h6,h7,h8⟩:=r2o bB C K G R U D n K2 eb eo ec k es ev S1 _ gone rank up down a2 a0 lst ee lst[k] a4 X1 h0 a1 a5 hK1o a3 (Au e2) ⟨e1,by omega⟩ hok (decide_eq_true (by omega)) hz hgc
     rw[aY (by omega)] at h2
     refine⟨(S2,a8,a7),T1,M2,h1,h2,h3,h4,?_,hF.step h6 h7 h8⟩
     rw[a6,kD,hz]
     simp only [cond_false,e2]
     exact h5)
  (by
   rintro⟨S1,a2,a0⟩ M1 ⟨X1,a4,a1,hF⟩
   exact r2x' bB n K2 ea ec (n*n*5) es (M:=M1) (decide_eq_false (by omega)))
  (n*n*5) 0 (by omega) (s:=(S,us,ds)) (M:=M) ⟨X0,hM,hb,rF.refl _ _ _⟩
 rw[<-hll,List.take_length] at h4
 exact⟨M',h1,h2,h3,S',us',ds',h4,h5⟩
theorem rK22:Try.f22.results= #[]:=by kernel_rfl
theorem hw22(bB C K G R U D n:Nat)(es:List E4)(ea:Option Addr)(ec:Nat)(S:Value)(gone:List Bool)(rank:List Int)(up down:List (List Int))(us ds:List Value){M M0:aA}(hM:aB M)(X0:Ext M0 M)(h0:M0.next=G)(hb:cM 53 73 42 22 46 ⟨⟨bB,C,K,G,R,U,D⟩,n,es,.slice ea es.length ec,S,⟨⟨[],kU n⟩,gone,rank,up,down⟩,us,ds⟩ M)(hn24:1<=n/\n<=24)(hn60:n<=60)(hes:xV n es)(hel:es.length<=400)(hln:ea.isNone=true->es.length=0/\ec=0): ∃M',Ev Try.prog [] 22 [pt bB 0] M (.tuple #[]) M'/\Ext M0 M'/\aB M'/\ ∃S' us' ds',cM 53 73 42 22 46 ⟨⟨bB,C,K,G,R,U,D⟩,n,es,.slice ea es.length ec,S',⟨Kq n es,gone,rank,up,down⟩,us',ds'⟩ M'/\rF (⟨bB,C,K,G,R,U,D⟩:BK) S M S' M':=by
 have gbB:M.get bB=some ⟨[i64 n,.slice ea es.length ec,aD R 0 n (n+1),S,aD U 0 n (n+1),aD D 0 n (n+1),pt C 0,aD G 0 n (n+1)],53,8,0,true⟩:=hb.gB
 obtain⟨w1,N2,M3,p4,l5,e6,E7,c1,F9⟩:=aH (x:=(n,bB)) hM Vb (⟨⟨_,_,rfl,rfl,rfl⟩,hn24⟩)
 have c4:=E7.next
 obtain⟨C2,K2,b8,c7,c3,a4,b0,b1⟩:=F9
 simp only [id] at b0 b1
 subst b8
 have nK2b:M0.next<=K2:=by have h9:=X0.next;omega
 have b4:=X0.trans E7
 have hEo: ∀id b,M.get id=some b->M3.get id=some b:=fun id b h=>E7.old h
 have hnK:M.next<=K2:=c3
 have hpb:=Wt hb hEo hnK
 obtain⟨a1,a5,b5,a7,b9,c0,c2,c6⟩:=Vm c1 b4 b0 b1 nK2b a4 hpb.1 hpb.2 hn60 hes hel
 have a2: ∀id b,M.get id=some b->a1.get id=some b:=fun id b h=>c2 id b (hEo id b h) (by have:=aA.lt_of_get h;omega)
 have hK2o: ¬(K2=(⟨bB,C,K,G,R,U,D⟩:BK).a S\/K2∈(⟨bB,C,K,G,R,U,D⟩:BK).ids):=fun e=>by have:=hb.own_lt K2 e;omega
 have b2:=hb.old a2
 obtain⟨a3,a6,b6,a8,b3,c5,b7,a9,a0⟩:=Vu a7 b5 h0 b2 c0 hK2o b2.es hn60 hes (sC n es es.length) (fun k x hx=>(wA n es es.length k x hx).imp id (fun h=>⟨h.1,h.2.2.imp fun _ q=>q.1⟩))
 have hraw:oU Try.prog [0,2] 60 Try.f22 q22 [pt bB 0] M [aU 11 (.slice ea es.length ec),aU 25 (i64 (n:Int)),bL 31 (pt C2 0) M3,aM 37,.blk 40 [0,2,3,23,24] .normal (fr [(0,(pt bB 0)),(2,(.slice ea es.length ec)),(3,(pt C2 0))]) a1,aU 48 (aD K2 0 (n*n*5) (n*n*5+1)),.blk 53 [0,2,37,38,39] .normal (fr []) a3]=some (.normal,a3,[qL 24 bB 1 M (.slice ea es.length ec),qL 3 bB 0 M (i64 (n:Int)),qC 45 [i64 (n:Int),.func (.func 47) ⟨[pt bB 0]⟩ ⟨[]⟩] M (pt C2 0) M3,.ln ea es.length ec,.blk 0 (.loop (q22.loopAt 0)) Try.f22.ntmps [0,2,3,23,24] [some (pt bB 0),some (.slice ea es.length ec),some (pt C2 0),some (i64 (es.length:Int)),some (i64 0)] M3 .normal (fr [(0,(pt bB 0)),(2,(.slice ea es.length ec)),(3,(pt C2 0))]) a1,qL 22 C2 1 a1 (aD K2 0 (n*n*5) (n*n*5+1)),.blk 2 (.loop (q22.loopAt 2)) Try.f22.ntmps [0,2,37,38,39] [some (pt bB 0),some (.slice ea es.length ec),some (aD K2 0 (n*n*5) (n*n*5+1)),some (i64 ((n*n*5:Nat):Int)),some (i64 0)] a1 .normal (fr []) a3]):=by kernel_rfl
 exact⟨a3,Ev.told_none aJ aI Try.func22 Xc (by kernel_rfl) rK22 (fun B=>sb2 (gF 45 Zo (gQ _)) 0 a5 2 a6) (fun _ h=>sQ h) hraw (.inr rfl) (hk (lC cP gbB rfl) (hk (lC cO gbB rfl) (hk (aN rfl p4 l5 e6) (hk (lN hln) (hk (fH rfl) (hk (lC hI b9 rfl) (hk (fH rfl) hn))))))),b6,a8,b3,c5,b7,a9,(rF.mk (fun id b g _=>a2 id b g) (.inl rfl) (by omega):rF (⟨bB,C,K,G,R,U,D⟩:BK) S M S a1).step a0.keep a0.a a0.next⟩
def okBe(x:tJ)(_:Unit):Prop:=(1<=x.n/\x.n<=24)/\xV x.n x.es/\x.es.length<=400/\x.s.b=⟨[],kU x.n⟩
abbrev ob22:OB (tJ×Unit):=Zf 53 73 42 22 46 (fun _:Unit=> []) okBe (fun x _ _ s=>s={x.s with b:=Kq x.n x.es})
theorem Zv{x:tJ×Unit}{lv:List Value}{M:aA}(hM:aB M)(h:ob22.A x lv M)(hlo:ob22.lo x<=M.next): ∃v M',TO Try.prog 22 ob22 lv M v M':=by
 have hA:=h
 obtain⟨⟨⟨bB,C,K,G,R,U,D⟩,n,es,ev,S,⟨s0,gone,rank,up,down⟩,us,ds⟩,u0⟩:=x
 obtain⟨rfl,hb,h1,h2,h3,h4⟩:=h
 simp only at hb h1 h2 h3 h4
 subst h4
 have X0:Ext (cut G M) M:=Ext.cut hlo
 obtain⟨ea,ec,hev⟩:=aK.form hb.es
 simp only at hev
 subst hev
 have hln:=aK.ln hb.es
 obtain⟨M',q1,q2,q3,S',us',ds',q4,q5⟩:=hw22 bB C K G R U D n es ea ec S gone rank up down us ds hM X0 rfl hb h1 (by omega) h2 h3 hln
 exact⟨_,M',q1,_,hA,hlo,q2,q5.keep,S',us',ds',_,q4,q5.a,rfl⟩
end Go.Proofs.Ytdaglldahidmbaa
