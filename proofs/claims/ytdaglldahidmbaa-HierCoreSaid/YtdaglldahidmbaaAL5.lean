/-
  Package hier: each of its laws for every argument; no conditions. The last text states which.
-/
import Derived.Test.YtdaglldahidmbaaAL4
set_option linter.unusedVariables false
set_option linter.unusedSimpArgs false
open Go Go.Am Go.Proofs
namespace Go.Proofs.Ytdaglldahidmbaa
set_option maxRecDepth 100000
theorem nE(size md:Int)(ns:List Int):(rF size ns md).length<=40:=by simp [rF];omega
theorem Vs{nx:Nat}{L:List E4}{S:Value}{M0 M:aA}{q:Nat}(h:qP nx L S M)(hn:M0.next<=nx)(hq: ∀b o m c,S=aC b o m c->b≠q):cX 37 4 M0 [q] L.length ((L.map bJ).flatten) S M:=by
 rcases h with⟨rfl,rfl⟩|⟨b,rfl,h1,h2,h3⟩
 ·exact .inl ⟨rfl,rfl,rfl⟩
 ·exact .inr ⟨b,rfl,h1,Kq L,by omega,by simp only [List.mem_singleton];exact hq b _ _ _ rfl,h3⟩
theorem Vr{n:Nat}{L:List E4}{S:Value}{M0 M:aA}{bad:List Nat}(h:cX 37 4 M0 bad n ((L.map bJ).flatten) S M)(hn:n=L.length)(hl:L.length<=400):jQ aV L M0.next S M:=by
 subst hn
 rcases h with⟨rfl,h1,_⟩|⟨b,rfl,h1,_,h2,_,h3⟩
 ·rw[List.eq_nil_of_length_eq_zero h1];exact aI.nil none
 ·exact aI.of_blk' (jO h2 h3) rfl rfl (fun _ _=>rfl) (by omega)
theorem rK6:Try.f6.results= #[.tmp 4]:=by kernel_rfl
theorem w6(size:Int)(i7:Option Addr)(i9:Nat)(ns:List Int){M:aA}(hM:aB M)(p6:aN ns (.slice i7 ns.length i9) M): ∃v_ M',Ev Try.prog [] 6 [i64 size,.slice i7 ns.length i9] M v_ M'/\Ext M M'/\aB M'/\v_= .bool true:=by
 obtain⟨w1,N2,M3,p4,l5,e6,E7,p5,F9⟩:=aM (x:=()) hM con9 (rfl)
 have o9:w1=(.bool true):=F9
 subst o9
 have i1:=(Ext.refl M).trans E7
 obtain⟨r1,r3,d3,q8,q4,o7,n1,k4,n2⟩:=aM (x:=(size,ns,2)) p5 Zb (⟨_,_,_,rfl,rfl,AP.Ext (R:=aN) p6 i1,rfl⟩)
 obtain⟨b8,d8,h9⟩:Xc ((dN size),(rF size ns 2)) M3.next r1 d3:=n2
 simp only at d8
 subst d8
 have f0:isCell b8=true:=qP.cell h9
 have o0:(qP M3.next) (rF size ns 2) b8 (cN [(0,M3.next)] d3):=mE (R:=qP M3.next) (Uh h9)
 have m0:=i1.trans n1
 obtain⟨a5,h7,c6,j5,p0,l9,k5⟩:=bE k4 ⟨[i64 0,fL],26,2,0,true⟩
 have f1:=mT c6 m0
 have n3:=jP (R:=(qP M3.next)) o0 c6 l9
 have o4:=m0.trans l9
 obtain⟨f4,r0,p1,l2,o5,k6,q7⟩:=aY (o:=0) (v:=(.agg ⟨[i64 ((dN size):Int),b8]⟩)) (new:= [i64 ((dN size):Int),b8]) o4 f1 k5 wC p0 rfl (by show(isCell (i64 _)&&(isCell b8&&true))=true;rw[f0];rfl) (Nat.zero_le _) (Nat.le_of_ble_eq_true rfl) rfl
 have n4:=iC (R:=(qP M3.next)) n3 (fun id h _=>l2 id h) (by intro id hh;simp only [bS] at hh;omega)
 obtain⟨o3,a9,k3,o6,k7,m2,n0⟩:=aAb (M0:=M) (L:=(rF size ns 2)) k6 o5 f1 p1 (Vs (eR (R:=(qP M3.next)) n4) (i1).next (fun b _ _ _ e=>by have:=Wy h9 b _ _ _ e;omega)) (by have h1:=nE size 2 ns;have h2:=dU size;omega) (by have h2:=dU size;omega)
 have h6:aV ((rF size ns 2)++cI (dN size)) o3 (cN [(0,M.next)] a9):=mE (Vr n0 (by rw[List.length_append,rD]) (by have h1:=nE size 2 ns;have h2:=dU size;rw[List.length_append,rD];omega))
 obtain⟨i6,i8,j1⟩:=aI.form h6
 subst j1
 obtain⟨HS,f5⟩: ∃s,s=gX (dN size) ((rF size ns 2)++cI (dN size)) (cF (dN size) ((rF size ns 2)++cI (dN size))):=⟨_,rfl⟩
 obtain⟨p7,l1,m7,m8,p8⟩:=zL (sD (nN (tW size ns 2) (by have h1:=nE size 2 ns;have h2:=dU size;omega))) (kL (nN (tW size ns 2) (by have h1:=nE size 2 ns;have h2:=dU size;omega))) (sF (nN (tW size ns 2) (by have h1:=nE size 2 ns;have h2:=dU size;omega))) (by have:=dU size;omega)
 rw[<-f5] at p7 l1 m7 m8 p8
 obtain⟨r2,r4,b3,q9,q5,o8,g0,k8,n5⟩:=aM (x:=((dN size),((rF size ns 2)++cI (dN size)))) k7 con11 (⟨⟨_,rfl,_,rfl,eR (R:=aV) h6⟩,(nN (tW size ns 2) (by have h1:=nE size 2 ns;have h2:=dU size;omega)),(by have:=dU size;omega)⟩)
 have n6:=iK (R:=aV) h6 g0
 have m3:=g0.old m2
 have o1:rI (Tm (dN size) ((rF size ns 2)++cI (dN size)) HS) r2 (cN [(0,a9.next)] b3):=by rw[f5];exact mE n5
 obtain⟨p9,q1,q2,q3,i64,j7,f7,f2,f3,f8,f9⟩:=o1
 replace f7:aV ((rF size ns 2)++cI (dN size)) p9 (cN [(0,a9.next)] b3):=f7
 obtain⟨b9,c2,j3⟩:=aI.form f7
 replace f2:aN HS.rank q1 (cN [(0,a9.next)] b3):=f2
 obtain⟨r5,c3,d4⟩:=aI.form f2
 replace f3:fO HS.b.arcs q2 (cN [(0,a9.next)] b3):=f3
 obtain⟨b4,b5,j4⟩:=aI.form f3
 replace f8:bD HS.up q3 (cN [(0,a9.next)] b3):=f8
 obtain⟨c0,c4,d5⟩:=eY f8
 replace f9:bD HS.down i64 (cN [(0,a9.next)] b3):=f9
 obtain⟨c1,c5,d6⟩:=eY f9
 rw[l1] at d4
 rw[m7] at d5
 rw[m8] at d6
 subst j3 d4 j4 d5 d6
 subst j7
 obtain⟨a3,a4,j2,_⟩:=cL f2 (by rw[l1];have:=dU size;omega)
 subst j2
 have m1:=o6.trans g0
 have d2:=aI.ln (eR (R:=fO) f3)
 obtain⟨a7,h8,a1,j6,p2,b7,k9⟩:=bE k8 ⟨[i64 0,fL,fL,fL,fL,fL],31,6,0,true⟩
 have l4:=mT a1 m1
 have b6:=fV m3 a1
 have n7:=jP (R:=aV) n6 a1 b7
 have n8:=jP (R:=aV) f7 a1 b7
 have n9:=jP (R:=aN) f2 a1 b7
 have g1:=jP (R:=fO) f3 a1 b7
 have g2:=jP (R:=bD) f8 a1 b7
 have g3:=jP (R:=bD) f9 a1 b7
 have j8:=b7.old m3
 have i0:=m1.trans b7
 obtain⟨b1,l7,d9,a0,i2,e5,m9⟩:=aY (o:=0) (v:=(.agg ⟨[i64 ((dN size):Int),.slice b9 ((rF size ns 2)++cI (dN size)).length c2,aC a3 a4 (dN size) c3,.slice b4 HS.b.arcs.length b5,aC c0 0 (dN size) c4,aC c1 0 (dN size) c5]⟩)) (new:= [i64 ((dN size):Int),.slice b9 ((rF size ns 2)++cI (dN size)).length c2,aC a3 a4 (dN size) c3,.slice b4 HS.b.arcs.length b5,aC c0 0 (dN size) c4,aC c1 0 (dN size) c5]) i0 l4 k9 wD p2 rfl rfl (Nat.zero_le _) (Nat.le_of_ble_eq_true rfl) rfl
 have g4:=iC (R:=aV) n7 (fun id h _=>a0 id h) (by intro id hh;simp only [bS] at hh;omega)
 have g5:=iC (R:=aV) n8 (fun id h _=>a0 id h) (by intro id hh;simp only [bS] at hh;omega)
 have c8:=iC (R:=aN) n9 (fun id h _=>a0 id h) (by intro id hh;simp only [bS] at hh;omega)
 have c9:=iC (R:=fO) g1 (fun id h _=>a0 id h) (by intro id hh;simp only [bS] at hh;omega)
 have d0:=iC (R:=bD) g2 (fun id h _=>a0 id h) (by intro id hh;simp only [bS] at hh;omega)
 have d1:=iC (R:=bD) g3 (fun id h _=>a0 id h) (by intro id hh;simp only [bS] at hh;omega)
 have j9:=(a0 _ b6).trans j8
 have p3:GX (Tm (dN size) ((rF size ns 2)++cI (dN size)) HS):=by rw[f5];exact Qv (n:=(dN size)) (es:=((rF size ns 2)++cI (dN size))) (nN (tW size ns 2) (by have h1:=nE size 2 ns;have h2:=dU size;omega)) (by have:=dU size;omega)
 obtain⟨l8,o2,a8,l6,l3,j0,a2,e7,g6⟩:=aM (x:=(Tm (dN size) ((rF size ns 2)++cI (dN size)) HS)) e5 con12 (⟨⟨_,rfl,⟨_,_,_,_,_,rfl,eR (R:=aV) g5,eR (R:=aN) c8,eR (R:=fO) c9,eR (R:=bD) d0,eR (R:=bD) d1⟩⟩,p3⟩)
 have g7:=iK (R:=aV) g4 a2
 have g8:=iK (R:=aN) c8 a2
 have g9:=iK (R:=fO) c9 a2
 have h0:=iK (R:=bD) d0 a2
 have h3:=iK (R:=bD) d1 a2
 have e0:=a2.old j9
 have e1:=a2.old d9
 have d7:l8=(.bool true):=g6
 subst d7
 have i3:=i2.trans a2
 have k2:HS=gX (dN size) ((rF size ns 2)++cI (dN size)) []:=by rw[f5,Ou (nN (tW size ns 2) (by have h1:=nE size 2 ns;have h2:=dU size;omega))]
 obtain⟨l0,m4,m5,m6⟩:=Qy (dN size) ((rF size ns 2)++cI (dN size))
 rw[<-k2] at l0 m4 m5 m6
 obtain⟨a6,e3,b0,e8,_⟩:=Zz (M0:=a8) (cur:=(eM (dN size) ((rF size ns 2)++cI (dN size))).cur) (g:=(List.replicate (dN size) false)) (eR (R:=aN) g8) (eR (R:=bD) h0) (eR (R:=bD) h3) e7 (Ext.refl a8) e0 e1 (by have h2:=dU size;omega) (fun v hv=>by rw[m4,List.getElem?_replicate,if_pos hv]) (fun v hv=>by rw[m5,List.getElem?_replicate,if_pos hv]) m6
 have h4:=iK (R:=aV) g7 b0
 have h5:=iK (R:=fO) g9 b0
 have k0:=b0.old e0
 have e2:=b0.old e1
 have i4:=i3.trans b0
 obtain⟨b2,e4,c7,e9,_⟩:=aAa (M0:=a6) (eR (R:=aV) h4) (eR (R:=fO) h5) e8 (Ext.refl a6) k0 e2 (by rw[l0];exact Ki (sD (nN (tW size ns 2) (by have h1:=nE size 2 ns;have h2:=dU size;omega))))
 have k1:=c7.old e2
 have i5:=i4.trans c7
 exact⟨.bool ((((iO (dN size) (eM (dN size) ((rF size ns 2)++cI (dN size))).cur (List.replicate (dN size) false) (dN size)).length:Nat):Int)==(HS.b.arcs.length:Int)),b2,Ev.told_tmp (tb:=[0,2,4]) (n:=200) (F:=[bL 3 (.bool true) M3,bL 12 (.agg ⟨[i64 ((dN size):Int),b8]⟩) d3,bL 14 (pt a5 0) h7,jE 16 f4,.blk 19 [5,6] .normal (fr [(5,(pt a5 0))]) a9,aQ 21 (.agg ⟨[i64 ((dN size):Int),.slice i6 ((rF size ns 2)++cI (dN size)).length i8]⟩),bL 23 (.agg ⟨[i64 ((dN size):Int),.slice b9 ((rF size ns 2)++cI (dN size)).length c2,aC a3 a4 (dN size) c3,.slice b4 HS.b.arcs.length b5,aC c0 0 (dN size) c4,aC c1 0 (dN size) c5]⟩) b3,bL 25 (pt a7 0) h8,jE 27 b1,aQ 29 (.agg ⟨[i64 ((dN size):Int),.slice b9 ((rF size ns 2)++cI (dN size)).length c2,aC a3 a4 (dN size) c3,.slice b4 HS.b.arcs.length b5,aC c0 0 (dN size) c4,aC c1 0 (dN size) c5]⟩),bL 31 (.bool true) a8,.blk 39 [5,7,8,9] .normal (fr [(5,(pt a5 0)),(7,(pt a7 0)),(8,(i64 (((iO (dN size) (eM (dN size) ((rF size ns 2)++cI (dN size))).cur (List.replicate (dN size) false) (dN size)).length:Nat):Int)))]) a6,.blk 42 [5,7,8,10] .normal (fr [(7,(pt a7 0)),(8,(i64 (((iO (dN size) (eM (dN size) ((rF size ns 2)++cI (dN size))).cur (List.replicate (dN size) false) (dN size)).length:Nat):Int)))]) b2,aQ 48 (.slice b4 HS.b.arcs.length b5),aL 50]) aF aE Try.func6 q6_ok (by kernel_rfl) rK6 (fun B=>rM (hQ 9 Q9 (hQ 10 Q10b (hQ 11 Q11 (hQ 12 Q12 (iE _))))) (k:= [(0,bone (.loop (q6.loopAt 0)) Try.f6.ntmps [5,6] [some (pt a5 0),some (i64 0)] f4 .normal (fr [(5,(pt a5 0))]) a9),(2,bone (.loop (q6.loopAt 2)) Try.f6.ntmps [5,7,8,9] [some (pt a5 0),some (pt a7 0),some (i64 0),some (i64 0)] a8 .normal (fr [(5,(pt a5 0)),(7,(pt a7 0)),(8,(i64 (((iO (dN size) (eM (dN size) ((rF size ns 2)++cI (dN size))).cur (List.replicate (dN size) false) (dN size)).length:Nat):Int)))]) a6),(4,bone (.loop (q6.loopAt 4)) Try.f6.ntmps [5,7,8,10] [some (pt a5 0),some (pt a7 0),some (i64 (((iO (dN size) (eM (dN size) ((rF size ns 2)++cI (dN size))).cur (List.replicate (dN size) false) (dN size)).length:Nat):Int)),some (i64 0)] a6 .normal (fr [(7,(pt a7 0)),(8,(i64 (((iO (dN size) (eM (dN size) ((rF size ns 2)++cI (dN size))).cur (List.replicate (dN size) false) (dN size)).length:Nat):Int)))]) b2)]) (fun p hp=>by simp only [List.mem_cons,List.not_mem_nil,or_false] at hp;rcases hp with rfl|rfl|rfl<;>first|exact sO.loop aF aE k3|exact sO.loop aF aE e3|exact sO.loop aF aE e4)) (fun _ h=>Kj h) (by kernel_rfl) (hq (qC 9 [] M (.bool true) M3) (aJ rfl p4 l5 e6) (hq (qC 10 [i64 size,.slice i7 ns.length i9,i64 2] M3 (.agg ⟨[i64 ((dN size):Int),b8]⟩) d3) (aJ rfl q8 q4 o7) (hq (.eq (cK Try.prog 26 d3) (1,.val (pt a5 0),h7)) (bR (by rw[<-c6,<-j5];kernel_rfl) Nat.one_ne_zero) (hq (qS 26 a5 0 (.agg ⟨[i64 ((dN size):Int),b8]⟩) h7 f4) (dA r0) (hq (.blk 0 (.loop (q6.loopAt 0)) Try.f6.ntmps [5,6] [some (pt a5 0),some (i64 0)] f4 .normal (fr [(5,(pt a5 0))]) a9) (fP rfl) (hq (qL 26 a5 0 a9 (.agg ⟨[i64 ((dN size):Int),.slice i6 ((rF size ns 2)++cI (dN size)).length i8]⟩)) (lA ⟨Bc,wC⟩ m2 rfl) (hq (qC 11 [.agg ⟨[i64 ((dN size):Int),.slice i6 ((rF size ns 2)++cI (dN size)).length i8]⟩] a9 (.agg ⟨[i64 ((dN size):Int),.slice b9 ((rF size ns 2)++cI (dN size)).length c2,aC a3 a4 (dN size) c3,.slice b4 HS.b.arcs.length b5,aC c0 0 (dN size) c4,aC c1 0 (dN size) c5]⟩) b3) (aJ rfl q9 q5 o8) (hq (.eq (cK Try.prog 31 b3) (1,.val (pt a7 0),h8)) (bR (by rw[<-a1,<-j6];kernel_rfl) Nat.one_ne_zero) (hq (qS 31 a7 0 (.agg ⟨[i64 ((dN size):Int),.slice b9 ((rF size ns 2)++cI (dN size)).length c2,aC a3 a4 (dN size) c3,.slice b4 HS.b.arcs.length b5,aC c0 0 (dN size) c4,aC c1 0 (dN size) c5]⟩) h8 b1) (dA l7) (hq (qL 31 a7 0 b1 (.agg ⟨[i64 ((dN size):Int),.slice b9 ((rF size ns 2)++cI (dN size)).length c2,aC a3 a4 (dN size) c3,.slice b4 HS.b.arcs.length b5,aC c0 0 (dN size) c4,aC c1 0 (dN size) c5]⟩)) (lA ⟨Be,wD⟩ d9 rfl) (hq (qC 12 [.agg ⟨[i64 ((dN size):Int),.slice b9 ((rF size ns 2)++cI (dN size)).length c2,aC a3 a4 (dN size) c3,.slice b4 HS.b.arcs.length b5,aC c0 0 (dN size) c4,aC c1 0 (dN size) c5]⟩] b1 (.bool true) a8) (aJ rfl l6 l3 j0) (hq (.blk 2 (.loop (q6.loopAt 2)) Try.f6.ntmps [5,7,8,9] [some (pt a5 0),some (pt a7 0),some (i64 0),some (i64 0)] a8 .normal (fr [(5,(pt a5 0)),(7,(pt a7 0)),(8,(i64 (((iO (dN size) (eM (dN size) ((rF size ns 2)++cI (dN size))).cur (List.replicate (dN size) false) (dN size)).length:Nat):Int)))]) a6) (fP rfl) (hq (.blk 4 (.loop (q6.loopAt 4)) Try.f6.ntmps [5,7,8,10] [some (pt a5 0),some (pt a7 0),some (i64 (((iO (dN size) (eM (dN size) ((rF size ns 2)++cI (dN size))).cur (List.replicate (dN size) false) (dN size)).length:Nat):Int)),some (i64 0)] a6 .normal (fr [(7,(pt a7 0)),(8,(i64 (((iO (dN size) (eM (dN size) ((rF size ns 2)++cI (dN size))).cur (List.replicate (dN size) false) (dN size)).length:Nat):Int)))]) b2) (fP rfl) (hk (lO 3 kX k1 rfl) (hk (lN d2) hn))))))))))))))),i5,e9,(by show Value.bool _=Value.bool _;rw[Qi (sD (nN (tW size ns 2) (by have h1:=nE size 2 ns;have h2:=dU size;omega))) (fun u hu=>by unfold bZ;rw[List.getElem?_replicate,if_pos hu];rfl),<-l0];rw[beq_self_eq_true])⟩
end Go.Proofs.Ytdaglldahidmbaa
