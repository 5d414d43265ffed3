/-
  Package hier: each of its laws for every argument; no conditions. The last text states which.
-/
import Derived.Test.YtdaglldahidmbaaGreatGAHR0
import Derived.Test.YtdaglldahidmbaaGreatGAmTn
set_option linter.unusedVariables false
set_option linter.unusedSimpArgs false
open Go Go.Am Go.Proofs Tryz
namespace Go.Proofs.YtdaglldahidmbaaGreat
set_option maxRecDepth 100000
theorem rK57:Tryz.f57.results= #[]:=by kernel_rfl
theorem hw50t(bB C K G R U D n:Nat)(es:List E4)(ev:Value)(Sa:Option Addr)(Sc:Nat)(arcs:List A7)(cur:List Int)(gone:List Bool)(rank:List Int)(up down:List (List Int))(us ds:List Value)(a:A7){M M0:aB}(hM:aA M)(X0:Ext M0 M)(h0:M0.next=G)(hb:cW 56 79 42 22 53 ⟨⟨bB,C,K,G,R,U,D⟩,n,es,ev,.slice Sa arcs.length Sc,⟨⟨arcs,cur⟩,gone,rank,up,down⟩,us,ds⟩ M)(l6:Sa.isNone=true->arcs.length=0/\Sc=0)(l5:arcs.length<=9223372036854775807)(b3:arcs.length<1073741824)(b4:n<=60/\cur.length=n*n*5/\(0<=a.f/\a.f<(n:Int))/\(0<=a.t/\a.t<(n:Int))/\(0<=a.m/\a.m<5)/\(aX cur (gO n a)= -1\/(0<=aX cur (gO n a)/\aX cur (gO n a)<(arcs.length:Int))))(i0:(dM (cU arcs) (aX cur (gO n a)) a.c)=true): ∃a5 M',Ev prog [] 57 [pt bB 0,.agg ⟨(bM a)⟩] M (.tuple #[]) M'/\Ext M0 M'/\aA M'/\(∀id k,M.get id=some k-> ¬(id=(⟨bB,C,K,G,R,U,D⟩:BK).a (.slice Sa arcs.length Sc)\/id∈ [bB,C,K,G,R,U,D])->M'.get id=some k)/\cW 56 79 42 22 53 ⟨⟨bB,C,K,G,R,U,D⟩,n,es,ev,a5,⟨⟨(arcs++ [a]),iO cU (⟨C,K,bB,n,cur,arcs,a,(arcs.length:Int)⟩:LX (List A7))⟩,gone,rank,up,down⟩,us,ds⟩ M'/\((⟨bB,C,K,G,R,U,D⟩:BK).a a5=(⟨bB,C,K,G,R,U,D⟩:BK).a (.slice Sa arcs.length Sc)\/(⟨bB,C,K,G,R,U,D⟩:BK).a a5=bB\/M.next<=(⟨bB,C,K,G,R,U,D⟩:BK).a a5):=by
 have h1:M.get bB=some ⟨[i64 n,ev,aC R 0 n (n+1),.slice Sa arcs.length Sc,aC U 0 n (n+1),aC D 0 n (n+1),pt C 0,aC G 0 n (n+1)],56,8,0,true⟩:=hb.gB
 have gC:M.get C=some ⟨[i64 n,aC K 0 (n*n*5) (n*n*5+1),.func (.func 53) ⟨[pt bB 0]⟩ ⟨[]⟩],79,3,0,true⟩:=hb.gC
 have gK:M.get K=some ⟨cur.map i64,3,1,0,true⟩:=hb.gK
 have gG:M.get G=some ⟨gone.map Value.bool,4,1,0,true⟩:=hb.gG
 have gR:M.get R=some ⟨rank.map i64,3,1,0,true⟩:=hb.gR
 have gU:M.get U=some ⟨us,22,1,0,true⟩:=hb.gU
 have gD:M.get D=some ⟨ds,22,1,0,true⟩:=hb.gD
 have l9:M0.next<=bB:=by rw[h0];exact hb.lo bB (by simp [BK.ids])
 have nC:M0.next<=C:=by rw[h0];exact hb.lo C (by simp [BK.ids])
 have nK:M0.next<=K:=by rw[h0];exact hb.lo K (by simp [BK.ids])
 have nG:M0.next<=G:=by rw[h0];exact hb.lo G (by simp [BK.ids])
 have nR:M0.next<=R:=by rw[h0];exact hb.lo R (by simp [BK.ids])
 have nU:M0.next<=U:=by rw[h0];exact hb.lo U (by simp [BK.ids])
 have nD:M0.next<=D:=by rw[h0];exact hb.lo D (by simp [BK.ids])
 have l7:([bB,C,K,G,R,U,D]:List Nat).Nodup:=hb.nd
 obtain⟨c1,a8,c3,c4,c5,c2,e2,dCG,dCR,dCU,dCD,i5,i6,i7,i4,dGR,dGU,dGD,dRU,dRD,dUD⟩:=nd7 l7
 have l0:cR 42 7 M0 [bB,C,K,G,R,U,D] arcs.length ((arcs.map bM).flatten) (.slice Sa arcs.length Sc) M:=hb.acc.acc (Nat.le_of_eq h0)
 obtain⟨b1,M2,a6,j0,g5,E6,l2⟩:=bC hM ⟨(bM a),42,7,0,true⟩
 have m5:=lQ a6 X0
 have e9:=fJ h1 a6
 have i1:=fJ gC a6
 have c0:=fJ gK a6
 have i3:=fJ gG a6
 have i8:=fJ gR a6
 have i9:=fJ gU a6
 have i2:=fJ gD a6
 have A8:=l0.new a6 E6
 have g9:=E6.old h1
 have f0:=E6.old gC
 have f1:=E6.old gK
 have j1:=E6.old gG
 have j2:=E6.old gR
 have j3:=E6.old gU
 have j4:=E6.old gD
 have m0:=E6.next
 have h6:=X0.trans E6
 obtain⟨h3,m6,a9,d8,e1,d2,m1,a1,d6⟩:=oD (P:=prog) (o:=Qy 79 53 cU (Mw 56) (fun y i=>0<=i/\i<(y.length:Int))) (f:=55) (x:=⟨C,K,bB,n,cur,arcs,a,(arcs.length:Int)⟩) (l:= [pt C 0,.agg ⟨(bM a)⟩,i64 (arcs.length:Int)]) l2 h6 (nK) (Nat.le_of_lt (aB.lt_of_get f1)) (⟨rfl,f0,f1,⟨bB,i64 n,ev,aC R 0 n (n+1),.slice Sa arcs.length Sc,aC U 0 n (n+1),aC D 0 n (n+1),pt C 0,aC G 0 n (n+1),rfl,bV.2 ⟨Ie a8,g9⟩,Kc A8 (by simp) l5⟩,e2,b4⟩) So
 have c9:=a1 _ _ g9 (fun e=>a8 e)
 have f2:=a1 _ _ f0 (fun e=>e2 e)
 have f3:=a1 _ _ j1 (fun e=>i5 e.symm)
 have f4:=a1 _ _ j2 (fun e=>i6 e.symm)
 have f6:=a1 _ _ j3 (fun e=>i7 e.symm)
 have f7:=a1 _ _ j4 (fun e=>i4 e.symm)
 have d0:=a1 _ _ g5 (fun e=>c0 e.symm)
 obtain⟨c8,d1⟩:=d6
 have g8:a9.get K=some ⟨(iO cU (⟨C,K,bB,n,cur,arcs,a,(arcs.length:Int)⟩:LX (List A7))).map i64,3,1,0,true⟩:=d1
 subst c8
 have l1:=A8.turn (x:=K) (by simp) a1
 obtain⟨b9,b7,a0,c7,f8,a4,d3⟩:=bC d2 ⟨(bM a),42,7,0,true⟩
 have l8:=lQ a0 e1
 have c6:=fJ c9 a0
 have e3:=fJ f2 a0
 have e6:=fJ g8 a0
 have e5:=fJ f3 a0
 have e7:=fJ f4 a0
 have e8:=fJ f6 a0
 have e4:=fJ f7 a0
 have db1b34:=fJ d0 a0
 have h4:=l1.new a0 a4
 have g0:=a4.old c9
 have g1:=a4.old f2
 have g2:=a4.old g8
 have g3:=a4.old f3
 have g4:=a4.old f4
 have g6:=a4.old f6
 have g7:=a4.old f7
 have j5:=a4.old d0
 have m2:=a4.next
 have h7:=e1.trans a4
 obtain⟨b6,a5,b8,Xf,h8,d4,b0,a3,e0,a7⟩:=Ho (P:=prog) (sT:=29) (xT:=29) (y:=56) (c:=2) h4 h7 d3 (by intro x hx;simp only [List.mem_cons,List.not_mem_nil,or_false] at hx;rcases hx with rfl|rfl|rfl|rfl|rfl|rfl|rfl|rfl|rfl<;>first|exact aB.lt_of_get f8|exact aB.lt_of_get j5|exact aB.lt_of_get g0|exact aB.lt_of_get g1|exact aB.lt_of_get g2|exact aB.lt_of_get g3|exact aB.lt_of_get g4|exact aB.lt_of_get g6|exact aB.lt_of_get g7) (by kernel_rfl) (by kernel_rfl) (by kernel_rfl) (by kernel_rfl) (by decide) (by decide) rfl b3 f8 (o:=0) (new:= (bM a)) rfl rfl rfl
 have j6:=a3 _ _ g0 (by simp)
 have j7:=a3 _ _ g1 (by simp)
 have j8:=a3 _ _ g2 (by simp)
 have j9:=a3 _ _ g3 (by simp)
 have k0:=a3 _ _ g4 (by simp)
 have k1:=a3 _ _ g6 (by simp)
 have k2:=a3 _ _ g7 (by simp)
 obtain⟨b2,m4,k3,a2,h9,d5,m3⟩:=aZ (o:=3) (v:=a5) (new:= [i64 (n:Int),ev,aC R 0 n (n+1),a5,aC U 0 n (n+1),aC D 0 n (n+1),pt C 0,aC G 0 n (n+1)]) h8 l9 d4 dS29 j6 (by rw[cJ b0.isCell];rfl) (by rw[cJ b0.isCell];show(isCell _&&true)=true;rw[b0.isCell];rfl) (Nat.zero_le _) (xAd rfl) (by rw[cJ b0.isCell];rfl)
 have h5:=b0.keep (by simp) (fun id h _=>a2 id h)
 have k4:=(a2 _ (Ne.symm c1)).trans j7
 have k5:=(a2 _ (Ne.symm a8)).trans j8
 have k6:=(a2 _ (Ne.symm c3)).trans j9
 have k7:=(a2 _ (Ne.symm c4)).trans k0
 have k8:=(a2 _ (Ne.symm c5)).trans k1
 have k9:=(a2 _ (Ne.symm c2)).trans k2
 have d9:oU prog [] 60 Tryz.f57 q57 [pt bB 0,.agg ⟨(bM a)⟩] M [bJ 1 (pt b1 0) M2,aR 9 (pt C 0),aR 11 (.agg ⟨(bM a)⟩),aR 21 (.slice Sa arcs.length Sc),aQ 23,.at 25 ((bif h3 then 1 else 2),.val (.bool (dM (cU arcs) (aX cur (gO n a)) a.c)),a9),aQ 26,aR 38 (.slice Sa arcs.length Sc),aR 40 (.agg ⟨(bM a)⟩),bJ 42 (aC b9 0 1 2) b7,.at 44 ((bif b6 then 1 else 2),.val a5,b8),jE 52 b2]=some (.normal,b2,[.eq (eI prog 42 (.agg ⟨(bM a)⟩) M) (1,.val (pt b1 0),M2),qL 53 bB 6 M2 (pt C 0),qL 42 b1 0 M2 (.agg ⟨(bM a)⟩),qL 29 bB 3 M2 (.slice Sa arcs.length Sc),.ln Sa arcs.length Sc,.cl 55 [pt C 0,.agg ⟨(bM a)⟩,i64 (arcs.length:Int)] M2 ((bif h3 then 1 else 2),.val (.bool (dM (cU arcs) (aX cur (gO n a)) a.c)),a9),qT (dM (cU arcs) (aX cur (gO n a)) a.c),qL 29 bB 3 a9 (.slice Sa arcs.length Sc),qL 42 b1 0 a9 (.agg ⟨(bM a)⟩),.eq (bH prog 29 1 [(0,(.agg ⟨(bM a)⟩))] a9) (1,.val (aC b9 0 1 2),b7),.q (.append [29,29] (.slice Sa arcs.length Sc) (aC b9 0 1 2) b7) ((bif b6 then 1 else 2),.val a5,b8),qS 29 bB 3 a5 b8 b2]):=by cases b6<;>kernel_rfl
 have b5: ∀id k,M.get id=some k-> ¬(id=(⟨bB,C,K,G,R,U,D⟩:BK).a (.slice Sa arcs.length Sc)\/id∈ [bB,C,K,G,R,U,D])->b2.get id=some k:=fun id k g hown=>by
  have l3:=BK.a_ne (k:=⟨bB,C,K,G,R,U,D⟩) (S:=(.slice Sa arcs.length Sc)) (id:=id) (fun e=>hown (.inl e))
  have h2:id∉ [bB,C,K,G,R,U,D]:=fun e=>hown (.inr e)
  simp only [List.mem_cons,List.not_mem_nil,or_false,not_or] at h2
  obtain⟨d7,h_C,l4,h_G,h_R,h_U,h_D⟩:=h2
  have g:=E6.old g
  have g:=a1 id k g (l4)
  have g:=a4.old g
  have g:=e0 id k g l3
  have g:=((fun id h _=>a2 id h) id d7 (aB.lt_of_get g)).trans g
  exact g
 refine⟨a5,b2,Ev.told_none aG aF Tryz.func57 Up (by kernel_rfl) rK57 (fun B=>lV (Vi 55 (TC.ok (Q:=(Vh (Qy 79 53 cU (Mw 56) (fun y i=>0<=i/\i<(y.length:Int))))) _) (gL _))) (fun _ _=>rfl) d9 (.inr rfl) (hk (bN (by rw[<-a6,<-j0];kernel_rfl) xAc) (hk (lC Qf g9 rfl) (hk (lA ⟨sN,kG⟩ g5 rfl) (hk (lC iU g9 rfl) (hk (lN l6) (hk (d8 _ rfl) (hk (bT i0) (hk (lC iU c9 rfl) (hk (lA ⟨sN,kG⟩ d0 rfl) (hk (bN (by rw[<-a0,<-c7];kernel_rfl) xAc) (hk (kB Xf (by cases b6<;>simp)) (hk (dB m4) hn)))))))))))),h9,d5,b5,?_,.inr (.inr (Nat.le_trans (by omega) (a7 ⟨bB,C,K,G,R,U,D⟩)))⟩
 exact cW.next (x:=⟨⟨bB,C,K,G,R,U,D⟩,n,es,ev,.slice Sa arcs.length Sc,⟨⟨arcs,cur⟩,gone,rank,up,down⟩,us,ds⟩) (s:=⟨⟨(arcs++ [a]),iO cU (⟨C,K,bB,n,cur,arcs,a,(arcs.length:Int)⟩:LX (List A7))⟩,gone,rank,up,down⟩) hb b5 (.inr (.inr (Nat.le_trans (by omega) (a7 ⟨bB,C,K,G,R,U,D⟩)))) k3 k4 k5 k6 k7 k8 k9 (fN.of_acc (arcs:=arcs++ [a]) (h5.less (fun x hx=>List.mem_cons_of_mem _ (List.mem_cons_of_mem _ (hx)))) (by simp) (by simp [bM]) (Nat.le_of_eq h0.symm)) (hb.up.ext (iM (x:=⟨⟨bB,C,K,G,R,U,D⟩,n,es,ev,.slice Sa arcs.length Sc,⟨⟨arcs,cur⟩,gone,rank,up,down⟩,us,ds⟩) b5 (.inr (.inr (Nat.le_trans (by omega) (a7 ⟨bB,C,K,G,R,U,D⟩)))))) (hb.down.ext (iM (x:=⟨⟨bB,C,K,G,R,U,D⟩,n,es,ev,.slice Sa arcs.length Sc,⟨⟨arcs,cur⟩,gone,rank,up,down⟩,us,ds⟩) b5 (.inr (.inr (Nat.le_trans (by omega) (a7 ⟨bB,C,K,G,R,U,D⟩))))))
theorem hw50f(bB C K G R U D n:Nat)(es:List E4)(ev:Value)(Sa:Option Addr)(Sc:Nat)(arcs:List A7)(cur:List Int)(gone:List Bool)(rank:List Int)(up down:List (List Int))(us ds:List Value)(a:A7){M M0:aB}(hM:aA M)(X0:Ext M0 M)(h0:M0.next=G)(hb:cW 56 79 42 22 53 ⟨⟨bB,C,K,G,R,U,D⟩,n,es,ev,.slice Sa arcs.length Sc,⟨⟨arcs,cur⟩,gone,rank,up,down⟩,us,ds⟩ M)(e3:Sa.isNone=true->arcs.length=0/\Sc=0)(e2:arcs.length<=9223372036854775807)(hal30:arcs.length<1073741824)(a3:n<=60/\cur.length=n*n*5/\(0<=a.f/\a.f<(n:Int))/\(0<=a.t/\a.t<(n:Int))/\(0<=a.m/\a.m<5)/\(aX cur (gO n a)= -1\/(0<=aX cur (gO n a)/\aX cur (gO n a)<(arcs.length:Int))))(c0:(dM (cU arcs) (aX cur (gO n a)) a.c)=false): ∃M',Ev prog [] 57 [pt bB 0,.agg ⟨(bM a)⟩] M (.tuple #[]) M'/\Ext M0 M'/\aA M'/\(∀id k,M.get id=some k-> ¬(id=(⟨bB,C,K,G,R,U,D⟩:BK).a (.slice Sa arcs.length Sc)\/id∈ [bB,C,K,G,R,U,D])->M'.get id=some k)/\cW 56 79 42 22 53 ⟨⟨bB,C,K,G,R,U,D⟩,n,es,ev,.slice Sa arcs.length Sc,⟨⟨arcs,iO cU (⟨C,K,bB,n,cur,arcs,a,(arcs.length:Int)⟩:LX (List A7))⟩,gone,rank,up,down⟩,us,ds⟩ M':=by
 have d7:M.get bB=some ⟨[i64 n,ev,aC R 0 n (n+1),.slice Sa arcs.length Sc,aC U 0 n (n+1),aC D 0 n (n+1),pt C 0,aC G 0 n (n+1)],56,8,0,true⟩:=hb.gB
 have gC:M.get C=some ⟨[i64 n,aC K 0 (n*n*5) (n*n*5+1),.func (.func 53) ⟨[pt bB 0]⟩ ⟨[]⟩],79,3,0,true⟩:=hb.gC
 have gK:M.get K=some ⟨cur.map i64,3,1,0,true⟩:=hb.gK
 have gG:M.get G=some ⟨gone.map Value.bool,4,1,0,true⟩:=hb.gG
 have gR:M.get R=some ⟨rank.map i64,3,1,0,true⟩:=hb.gR
 have gU:M.get U=some ⟨us,22,1,0,true⟩:=hb.gU
 have gD:M.get D=some ⟨ds,22,1,0,true⟩:=hb.gD
 have nK:M0.next<=K:=by rw[h0];exact hb.lo K (by simp [BK.ids])
 have e4:([bB,C,K,G,R,U,D]:List Nat).Nodup:=hb.nd
 obtain⟨dbBC,a2,dbBG,dbBR,dbBU,dbBD,b3,dCG,dCR,dCU,dCD,c2,c3,c4,c1,dGR,dGU,dGD,dRU,dRD,dUD⟩:=nd7 e4
 have d8:cR 42 7 M0 [bB,C,K,G,R,U,D] arcs.length ((arcs.map bM).flatten) (.slice Sa arcs.length Sc) M:=hb.acc.acc (Nat.le_of_eq h0)
 obtain⟨b1,M2,b4,c5,g5,E6,e0⟩:=bC hM ⟨(bM a),42,7,0,true⟩
 have A8:=d8.new b4 E6
 have g9:=E6.old d7
 have b5:=E6.old gC
 have b6:=E6.old gK
 have c6:=E6.old gG
 have c7:=E6.old gR
 have c8:=E6.old gU
 have c9:=E6.old gD
 have b8:=X0.trans E6
 obtain⟨b2,e6,a1,a9,b9,a7,e5,a0,a8⟩:=oD (P:=prog) (o:=Qy 79 53 cU (Mw 56) (fun y i=>0<=i/\i<(y.length:Int))) (f:=55) (x:=⟨C,K,bB,n,cur,arcs,a,(arcs.length:Int)⟩) (l:= [pt C 0,.agg ⟨(bM a)⟩,i64 (arcs.length:Int)]) e0 b8 (nK) (Nat.le_of_lt (aB.lt_of_get b6)) (⟨rfl,b5,b6,⟨bB,i64 n,ev,aC R 0 n (n+1),.slice Sa arcs.length Sc,aC U 0 n (n+1),aC D 0 n (n+1),pt C 0,aC G 0 n (n+1),rfl,bV.2 ⟨Ie a2,g9⟩,Kc A8 (by simp) e2⟩,b3,a3⟩) So
 have d0:=a0 _ _ g9 (fun e=>a2 e)
 have d1:=a0 _ _ b5 (fun e=>b3 e)
 have d2:=a0 _ _ c6 (fun e=>c2 e.symm)
 have d3:=a0 _ _ c7 (fun e=>c3 e.symm)
 have d4:=a0 _ _ c8 (fun e=>c4 e.symm)
 have d5:=a0 _ _ c9 (fun e=>c1 e.symm)
 obtain⟨a5,a6⟩:=a8
 have d6:a1.get K=some ⟨(iO cU (⟨C,K,bB,n,cur,arcs,a,(arcs.length:Int)⟩:LX (List A7))).map i64,3,1,0,true⟩:=a6
 subst a5
 have d9:=A8.turn (x:=K) (by simp) a0
 have b0:oU prog [] 60 Tryz.f57 q57 [pt bB 0,.agg ⟨(bM a)⟩] M [bJ 1 (pt b1 0) M2,aR 9 (pt C 0),aR 11 (.agg ⟨(bM a)⟩),aR 21 (.slice Sa arcs.length Sc),aQ 23,.at 25 ((bif b2 then 1 else 2),.val (.bool (dM (cU arcs) (aX cur (gO n a)) a.c)),a1),aO 26]=some (.normal,a1,[.eq (eI prog 42 (.agg ⟨(bM a)⟩) M) (1,.val (pt b1 0),M2),qL 53 bB 6 M2 (pt C 0),qL 42 b1 0 M2 (.agg ⟨(bM a)⟩),qL 29 bB 3 M2 (.slice Sa arcs.length Sc),.ln Sa arcs.length Sc,.cl 55 [pt C 0,.agg ⟨(bM a)⟩,i64 (arcs.length:Int)] M2 ((bif b2 then 1 else 2),.val (.bool (dM (cU arcs) (aX cur (gO n a)) a.c)),a1),qF (dM (cU arcs) (aX cur (gO n a)) a.c)]):=by cases b2<;>kernel_rfl
 have a4: ∀id k,M.get id=some k-> ¬(id=(⟨bB,C,K,G,R,U,D⟩:BK).a (.slice Sa arcs.length Sc)\/id∈ [bB,C,K,G,R,U,D])->a1.get id=some k:=fun id k g hown=>by
  have b7:id∉ [bB,C,K,G,R,U,D]:=fun e=>hown (.inr e)
  simp only [List.mem_cons,List.not_mem_nil,or_false,not_or] at b7
  obtain⟨h_bB,h_C,e1,h_G,h_R,h_U,h_D⟩:=b7
  have g:=E6.old g
  have g:=a0 id k g (e1)
  exact g
 refine⟨a1,Ev.told_none aG aF Tryz.func57 Up (by kernel_rfl) rK57 (fun B=>lV (Vi 55 (TC.ok (Q:=(Vh (Qy 79 53 cU (Mw 56) (fun y i=>0<=i/\i<(y.length:Int))))) _) (gL _))) (fun _ _=>rfl) b0 (.inr rfl) (hk (bN (by rw[<-b4,<-c5];kernel_rfl) xAc) (hk (lC Qf g9 rfl) (hk (lA ⟨sN,kG⟩ g5 rfl) (hk (lC iU g9 rfl) (hk (lN e3) (hk (a9 _ rfl) (hk (bF c0) hn))))))),b9,a7,a4,?_⟩
 exact cW.next (x:=⟨⟨bB,C,K,G,R,U,D⟩,n,es,ev,.slice Sa arcs.length Sc,⟨⟨arcs,cur⟩,gone,rank,up,down⟩,us,ds⟩) (s:=⟨⟨arcs,iO cU (⟨C,K,bB,n,cur,arcs,a,(arcs.length:Int)⟩:LX (List A7))⟩,gone,rank,up,down⟩) hb a4 (.inl rfl) d0 d1 d6 d2 d3 d4 d5 (fN.of_acc (d9.less (fun x hx=>List.mem_cons_of_mem _ (hx))) rfl rfl (Nat.le_of_eq h0.symm)) (hb.up.ext (iM (x:=⟨⟨bB,C,K,G,R,U,D⟩,n,es,ev,.slice Sa arcs.length Sc,⟨⟨arcs,cur⟩,gone,rank,up,down⟩,us,ds⟩) a4 (.inl rfl))) (hb.down.ext (iM (x:=⟨⟨bB,C,K,G,R,U,D⟩,n,es,ev,.slice Sa arcs.length Sc,⟨⟨arcs,cur⟩,gone,rank,up,down⟩,us,ds⟩) a4 (.inl rfl)))
open Tryz
instance:Ro (fun a:A7=> [Value.agg ⟨bM a⟩]):=⟨fun{x y} h=>by simp only [List.cons.injEq,Value.agg.injEq,Array.mk.injEq,and_true] at h;obtain⟨x1,x2,x3,x4,x5,x6,x7⟩:=x;obtain⟨y1,y2,y3,y4,y5,y6,y7⟩:=y;simpa [i64] using h⟩
def Oj(x:uS)(a:A7):Prop:=x.n<=60/\(∃c,HI x.n c x.s.b)/\x.s.b.arcs.length<536870912/\(0<=a.f/\a.f<x.n)/\(0<=a.t/\a.t<x.n)/\(0<=a.m/\a.m<5)
abbrev ob50:OB (uS×A7):=obB 56 79 42 22 53 (fun a=> [.agg ⟨bM a⟩]) Oj (fun x a _ s=>s={x.s with b:=fO x.n x.s.b a})
theorem Xy{x:uS×A7}{lv:List Value}{M:aB}(hM:aA M)(h:ob50.A x lv M)(a3:ob50.lo x<=M.next): ∃v M',TO prog 57 ob50 lv M v M':=by
 have hA:=h
 obtain⟨⟨⟨bB,C,K,G,R,U,D⟩,n,es,ev,S,⟨⟨arcs,cur⟩,gone,rank,up,down⟩,us,ds⟩,a⟩:=x
 obtain⟨rfl,hb,hn,⟨c,a1⟩,hl,hf,ht,hm⟩:=h
 simp only at hb hn a1 hl hf ht hm
 obtain⟨Sa,Sc,hS,a2⟩:=hb.acc.form
 simp only at hS a2
 subst hS
 have X0:Ext (cut G M) M:=Ext.cut a3
 have hk:=(iP hf ht hm)
 have a4:cur.length=n*n*5:=a1.len
 have a7:gO n a<cur.length:=by rw[a4];unfold gO;omega
 have a8:aX cur (gO n a)= -1\/(0<=aX cur (gO n a)/\aX cur (gO n a)<(arcs.length:Int)):=by
  rcases a1.cur _ _ (gI a7) with e|⟨e1,y,e2,_⟩
  ·exact .inl e
  ·have:=(xAg.1 e2).1
   simp only at this
   exact .inr ⟨e1,by omega⟩
 have a0:=(⟨hn,a4,hf,ht,hm,a8⟩:n<=60/\cur.length=n*n*5/\(0<=a.f/\a.f<(n:Int))/\(0<=a.t/\a.t<(n:Int))/\(0<=a.m/\a.m<5)/\(aX cur (gO n a)= -1\/(0<=aX cur (gO n a)/\aX cur (gO n a)<(arcs.length:Int))))
 have a5:arcs.length<=9223372036854775807:=by omega
 have a6:arcs.length<1073741824:=by omega
 cases hq:dM (cU arcs) (aX cur (gO n a)) a.c with
 |true=>
  obtain⟨S',M',h1,h2,h3,h4,h5,h6⟩:=hw50t bB C K G R U D n es ev Sa Sc arcs cur gone rank up down us ds a hM X0 rfl hb a2 a5 a6 a0 hq
  refine⟨_,M',h1,_,hA,a3,h2,h4,S',us,ds,_,h5,h6,?_⟩
  simp [fO,iO,hq]
 |false=>
  obtain⟨M',h1,h2,h3,h4,h5⟩:=hw50f bB C K G R U D n es ev Sa Sc arcs cur gone rank up down us ds a hM X0 rfl hb a2 a5 a6 a0 hq
  refine⟨_,M',h1,_,hA,a3,h2,h4,_,us,ds,_,h5,.inl rfl,?_⟩
  simp [fO,iO,hq]
open Tryz
theorem rbv(ab ub uo ul uc j v bB C K G R U D n:Nat)(es:List E4)(ev:Value)(arcs:List A7)(cur:List Int)(gone:List Bool)(rank:List Int)(up down:List (List Int))(us ds:List Value)(x y:A7)(i o:Int)(dr dl di:Value){M:aB}(hb:cW 56 79 42 22 53 ⟨⟨bB,C,K,G,R,U,D⟩,n,es,ev,aC ab 0 arcs.length arcs.length,⟨⟨arcs,cur⟩,gone,rank,up,down⟩,us,ds⟩ M)(harcs0:dJ arcs (aC ab 0 arcs.length arcs.length) M)(hxi:sJ arcs i=x)(hyo:sJ arcs o=y)(a4:(0<=i/\i<(arcs.length:Int))/\(0<=o/\o<(arcs.length:Int))/\0<=(sJ arcs i).c+(sJ arcs o).c/\(sJ arcs i).c+(sJ arcs o).c<9223372036854775808)(hok:Oj ⟨⟨bB,C,K,G,R,U,D⟩,n,es,ev,aC ab 0 arcs.length arcs.length,⟨⟨arcs,cur⟩,gone,rank,up,down⟩,us,ds⟩ (mK x y i o))(a3:(decide ((j:Int)<(ul:Int)))=true)(a0:(y.t==(v:Int))=true)(a1:bA prog 3 ⟨ub,uo+((j:Int):Int).toNat*1,none⟩ M=some (i64 o))(a2:bA prog 3 ⟨ab,0+(o:Int).toNat*7+1,none⟩ M=some (i64 y.t)): ∃T1,Rd prog [] (q65.loopAt 2) Tryz.f65.ntmps (fr [(0,(pt bB 0)),(1,(i64 (v:Int))),(5,(i64 i)),(16,dr),(17,dl),(18,di),(29,(aC ub uo ul uc)),(30,(i64 (ul:Int))),(31,(i64 (j:Int)))]) M .normal T1 M/\ [0,1,5,16,17,18,29,30,31].map T1.get= [some (pt bB 0),some (i64 (v:Int)),some (i64 i),some dr,some dl,some di,some (aC ub uo ul uc),some (i64 (ul:Int)),some (i64 (IntKind.wrap .i64 ((j:Int)+(1:Int))))]:=by
 have a5:M.get bB=some ⟨[i64 n,ev,aC R 0 n (n+1),aC ab 0 arcs.length arcs.length,aC U 0 n (n+1),aC D 0 n (n+1),pt C 0,aC G 0 n (n+1)],56,8,0,true⟩:=hb.gB
 exact Rd.told (tb:=[]) (n:=60) (F:=[aQ 2,aQ 4,aR 6 (i64 o),aR 18 (aC ab 0 arcs.length arcs.length),aQ 26,aR 30 (i64 y.t),aO 37,aO 39,aO 41,aO 43,aO 45,aO 47,aO 49,aO 51,aO 53,aO 55,aO 57,aO 60]) aG aF (aI prog) (fun _ _=>rfl) (by kernel_rfl) (hk (bT a3) (hk (qI (j:Int) ul (by omega) (by simp at a3;omega)) (hk (lD (a1)) (hk (lO 3 iU a5 rfl) (hk (qI o arcs.length a4.2.1.1 a4.2.1.2) (hk (lD (a2)) (hk (bF (x:=!(y.t==(v:Int))) (by rw[a0];rfl)) (hk (bF (x:=!(y.t==(v:Int))) (by rw[a0];rfl)) (hk (bF (x:=!(y.t==(v:Int))) (by rw[a0];rfl)) (hk (bF (x:=!(y.t==(v:Int))) (by rw[a0];rfl)) (hk (bF (x:=!(y.t==(v:Int))) (by rw[a0];rfl)) (hk (bF (x:=!(y.t==(v:Int))) (by rw[a0];rfl)) (hk (bF (x:=!(y.t==(v:Int))) (by rw[a0];rfl)) (hk (bF (x:=!(y.t==(v:Int))) (by rw[a0];rfl)) (hk (bF (x:=!(y.t==(v:Int))) (by rw[a0];rfl)) (hk (bF (x:=!(y.t==(v:Int))) (by rw[a0];rfl)) (hk (bF (x:=!(y.t==(v:Int))) (by rw[a0];rfl)) (hk (bF (x:=!(y.t==(v:Int))) (by rw[a0];rfl)) hn))))))))))))))))))
theorem rbo(ab ub uo ul uc j v bB C K G R U D n:Nat)(es:List E4)(ev:Value)(arcs:List A7)(cur:List Int)(gone:List Bool)(rank:List Int)(up down:List (List Int))(us ds:List Value)(x y:A7)(i o:Int)(dr dl di:Value){M M0:aB}(hM:aA M)(X0:Ext M0 M)(h0:M0.next=G)(hb:cW 56 79 42 22 53 ⟨⟨bB,C,K,G,R,U,D⟩,n,es,ev,aC ab 0 arcs.length arcs.length,⟨⟨arcs,cur⟩,gone,rank,up,down⟩,us,ds⟩ M)(a1:dJ arcs (aC ab 0 arcs.length arcs.length) M)(d0:sJ arcs i=x)(d1:sJ arcs o=y)(a2:(0<=i/\i<(arcs.length:Int))/\(0<=o/\o<(arcs.length:Int))/\0<=(sJ arcs i).c+(sJ arcs o).c/\(sJ arcs i).c+(sJ arcs o).c<9223372036854775808)(c9:Oj ⟨⟨bB,C,K,G,R,U,D⟩,n,es,ev,aC ab 0 arcs.length arcs.length,⟨⟨arcs,cur⟩,gone,rank,up,down⟩,us,ds⟩ (mK x y i o))(c0:(decide ((j:Int)<(ul:Int)))=true)(a0:(y.t==(v:Int))=false)(c3:(x.m==y.m)=true)(b2:bA prog 3 ⟨ub,uo+((j:Int):Int).toNat*1,none⟩ M=some (i64 o))(b3:bA prog 3 ⟨ab,0+(o:Int).toNat*7+1,none⟩ M=some (i64 y.t))(b4:bA prog 3 ⟨ab,0+(i:Int).toNat*7+2,none⟩ M=some (i64 x.m))(b5:bA prog 3 ⟨ab,0+(o:Int).toNat*7+2,none⟩ M=some (i64 y.m)): ∃T1 M' a3 b9 a6,Rd prog [] (q65.loopAt 2) Tryz.f65.ntmps (fr [(0,(pt bB 0)),(1,(i64 (v:Int))),(5,(i64 i)),(16,dr),(17,dl),(18,di),(29,(aC ub uo ul uc)),(30,(i64 (ul:Int))),(31,(i64 (j:Int)))]) M .normal T1 M'/\ [0,1,5,16,17,18,29,30,31].map T1.get= [some (pt bB 0),some (i64 (v:Int)),some (i64 i),some dr,some dl,some di,some (aC ub uo ul uc),some (i64 (ul:Int)),some (i64 (IntKind.wrap .i64 ((j:Int)+(1:Int))))]/\Ext M0 M'/\aA M'/\cW 56 79 42 22 53 ⟨⟨bB,C,K,G,R,U,D⟩,n,es,ev,a3,⟨fO n ⟨arcs,cur⟩ (mK x y i o),gone,rank,up,down⟩,b9,a6⟩ M'/\(∀id b,M.get id=some b-> ¬(id=(⟨bB,C,K,G,R,U,D⟩:BK).a (aC ab 0 arcs.length arcs.length)\/id∈(⟨bB,C,K,G,R,U,D⟩:BK).ids)->M'.get id=some b)/\((⟨bB,C,K,G,R,U,D⟩:BK).a a3=(⟨bB,C,K,G,R,U,D⟩:BK).a (aC ab 0 arcs.length arcs.length)\/(⟨bB,C,K,G,R,U,D⟩:BK).a a3=(⟨bB,C,K,G,R,U,D⟩:BK).B\/M.next<=(⟨bB,C,K,G,R,U,D⟩:BK).a a3)/\M.next<=M'.next:=by
 have c6:M.get bB=some ⟨[i64 n,ev,aC R 0 n (n+1),aC ab 0 arcs.length arcs.length,aC U 0 n (n+1),aC D 0 n (n+1),pt C 0,aC G 0 n (n+1)],56,8,0,true⟩:=hb.gB
 have gG:M.get G=some ⟨gone.map Value.bool,4,1,0,true⟩:=hb.gG
 have nG:M0.next<=G:=by rw[h0];exact hb.lo G (by simp [BK.ids])
 have c8:([bB,C,K,G,R,U,D]:List Nat).Nodup:=hb.nd
 obtain⟨dbBC,dbBK,dbBG,dbBR,dbBU,dbBD,dCK,dCG,dCR,dCU,dCD,dKG,dKR,dKU,dKD,dGR,dGU,dGD,dRU,dRD,dUD⟩:=nd7 c8
 have a4:=a1
 obtain⟨w1,N2,M3,p4,l5,e6,E7,c7,F9⟩:=aL (x:=(arcs,i,o)) hM con91 (⟨⟨_,_,_,rfl,a4,rfl,rfl⟩,a2⟩)
 have d2:=E7.next
 have c5:=E7.old gG
 have c4:w1=(.agg ⟨[i64 x.f,i64 y.t,i64 x.m,i64 (x.c+y.c),i64 (-1),i64 i,i64 o]⟩):=by have h9:w1= .agg ⟨bM (mK (sJ arcs i) (sJ arcs o) i o)⟩:=F9;rw[d0,d1] at h9;exact h9
 subst c4
 have c1:=X0.trans E7
 obtain⟨b8,w25,a5,b1,c2,a7,d3,b7,a8⟩:=oD (P:=prog) (o:=ob50) (f:=57) (x:=(⟨⟨bB,C,K,G,R,U,D⟩,n,es,ev,aC ab 0 arcs.length arcs.length,⟨⟨arcs,cur⟩,gone,rank,up,down⟩,us,ds⟩,(mK x y i o))) (l:= [pt bB 0,.agg ⟨[i64 x.f,i64 y.t,i64 x.m,i64 (x.c+y.c),i64 (-1),i64 i,i64 o]⟩]) c7 c1 (nG) (Nat.le_of_lt (aB.lt_of_get c5)) (⟨rfl,hb.old (fun id b h=>(E7.old h)),c9⟩) Xy
 obtain⟨a3,b9,a6,_,b0,a9,rfl⟩:=a8
 have b6:oR prog [] 60 Tryz.f65 (q65.loopAt 2) [(0,(pt bB 0)),(1,(i64 (v:Int))),(5,(i64 i)),(16,dr),(17,dl),(18,di),(29,(aC ub uo ul uc)),(30,(i64 (ul:Int))),(31,(i64 (j:Int)))] M [aQ 2,aQ 4,aR 6 (i64 o),aR 18 (aC ab 0 arcs.length arcs.length),aQ 26,aR 30 (i64 y.t),aQ 37,aQ 39,aQ 41,aQ 42,aQ 43,aQ 45,aR 46 (i64 x.m),aQ 47,aQ 49,aQ 51,aQ 52,aQ 53,aQ 55,aR 56 (i64 y.m),aQ 57,aQ 60,aQ 61,bJ 71 (.agg ⟨[i64 x.f,i64 y.t,i64 x.m,i64 (x.c+y.c),i64 (-1),i64 i,i64 o]⟩) M3,.at 73 ((bif b8 then 1 else 2),.val w25,a5)] [0,1,5,16,17,18,29,30,31]=some (.normal,[some (pt bB 0),some (i64 (v:Int)),some (i64 i),some dr,some dl,some di,some (aC ub uo ul uc),some (i64 (ul:Int)),some (i64 (IntKind.wrap .i64 ((j:Int)+(1:Int))))],a5,[qT (decide ((j:Int)<(ul:Int))),.q (.inb (j:Int) ul) (eD true),qL 3 ub (uo+((j:Int):Int).toNat*1) M (i64 o),qL 29 bB 3 M (aC ab 0 arcs.length arcs.length),.q (.inb o arcs.length) (eD true),qL 3 ab (0+(o:Int).toNat*7+1) M (i64 y.t),qT (!(y.t==(v:Int))),qT (!(y.t==(v:Int))),qT (!(y.t==(v:Int))),.q (.inb i arcs.length) (eD true),qT (!(y.t==(v:Int))),qT (!(y.t==(v:Int))),qL 3 ab (0+(i:Int).toNat*7+2) M (i64 x.m),qT (!(y.t==(v:Int))),qT (!(y.t==(v:Int))),qT (!(y.t==(v:Int))),.q (.inb o arcs.length) (eD true),qT (!(y.t==(v:Int))),qT (!(y.t==(v:Int))),qL 3 ab (0+(o:Int).toNat*7+2) M (i64 y.m),qT (!(y.t==(v:Int))),qT (!(y.t==(v:Int))),qT (x.m==y.m),qC 91 [aC ab 0 arcs.length arcs.length,i64 i,i64 o] M (.agg ⟨[i64 x.f,i64 y.t,i64 x.m,i64 (x.c+y.c),i64 (-1),i64 i,i64 o]⟩) M3,.cl 57 [pt bB 0,.agg ⟨[i64 x.f,i64 y.t,i64 x.m,i64 (x.c+y.c),i64 (-1),i64 i,i64 o]⟩] M3 ((bif b8 then 1 else 2),.val w25,a5)]):=by cases b8<;>kernel_rfl
 obtain⟨T1,h1,h2⟩:=Rd.told aG aF (fun B=>lV (Vi 57 (TC.ok (Q:=(Vh (ob50))) _) (gH 91 Q91 (gL _)))) (fun _ _=>rfl) b6 (hk (bT c0) (hk (dE (by omega) (by simp at c0;omega)) (hk (eO (b2)) (hk (lC iU c6 rfl) (hk (dE a2.2.1.1 a2.2.1.2) (hk (eO (b3)) (hk (bT (by rw[a0];rfl)) (hk (bT (by rw[a0];rfl)) (hk (bT (by rw[a0];rfl)) (hk (dE a2.1.1 a2.1.2) (hk (bT (by rw[a0];rfl)) (hk (bT (by rw[a0];rfl)) (hk (eO (b4)) (hk (bT (by rw[a0];rfl)) (hk (bT (by rw[a0];rfl)) (hk (bT (by rw[a0];rfl)) (hk (dE a2.2.1.1 a2.2.1.2) (hk (bT (by rw[a0];rfl)) (hk (bT (by rw[a0];rfl)) (hk (eO (b5)) (hk (bT (by rw[a0];rfl)) (hk (bT (by rw[a0];rfl)) (hk (bT c3) (hk (aK rfl p4 l5 e6) (hk (b1 _ rfl) hn)))))))))))))))))))))))))
 exact⟨T1,a5,a3,b9,a6,h1,h2,c2,a7,b0,fun id b g h=>b7 id b (E7.old g) h,a9.imp id (Or.imp id (Nat.le_trans (by omega))),by omega⟩
theorem rbm(ab ub uo ul uc j v bB C K G R U D n:Nat)(es:List E4)(ev:Value)(arcs:List A7)(cur:List Int)(gone:List Bool)(rank:List Int)(up down:List (List Int))(us ds:List Value)(x y:A7)(i o:Int)(dr dl di:Value){M:aB}(hb:cW 56 79 42 22 53 ⟨⟨bB,C,K,G,R,U,D⟩,n,es,ev,aC ab 0 arcs.length arcs.length,⟨⟨arcs,cur⟩,gone,rank,up,down⟩,us,ds⟩ M)(harcs0:dJ arcs (aC ab 0 arcs.length arcs.length) M)(hxi:sJ arcs i=x)(hyo:sJ arcs o=y)(a1:(0<=i/\i<(arcs.length:Int))/\(0<=o/\o<(arcs.length:Int))/\0<=(sJ arcs i).c+(sJ arcs o).c/\(sJ arcs i).c+(sJ arcs o).c<9223372036854775808)(hok:Oj ⟨⟨bB,C,K,G,R,U,D⟩,n,es,ev,aC ab 0 arcs.length arcs.length,⟨⟨arcs,cur⟩,gone,rank,up,down⟩,us,ds⟩ (mK x y i o))(a6:(decide ((j:Int)<(ul:Int)))=true)(a0:(y.t==(v:Int))=false)(a7:(x.m==y.m)=false)(a2:bA prog 3 ⟨ub,uo+((j:Int):Int).toNat*1,none⟩ M=some (i64 o))(a3:bA prog 3 ⟨ab,0+(o:Int).toNat*7+1,none⟩ M=some (i64 y.t))(a4:bA prog 3 ⟨ab,0+(i:Int).toNat*7+2,none⟩ M=some (i64 x.m))(a5:bA prog 3 ⟨ab,0+(o:Int).toNat*7+2,none⟩ M=some (i64 y.m)): ∃T1,Rd prog [] (q65.loopAt 2) Tryz.f65.ntmps (fr [(0,(pt bB 0)),(1,(i64 (v:Int))),(5,(i64 i)),(16,dr),(17,dl),(18,di),(29,(aC ub uo ul uc)),(30,(i64 (ul:Int))),(31,(i64 (j:Int)))]) M .normal T1 M/\ [0,1,5,16,17,18,29,30,31].map T1.get= [some (pt bB 0),some (i64 (v:Int)),some (i64 i),some dr,some dl,some di,some (aC ub uo ul uc),some (i64 (ul:Int)),some (i64 (IntKind.wrap .i64 ((j:Int)+(1:Int))))]:=by
 have a8:M.get bB=some ⟨[i64 n,ev,aC R 0 n (n+1),aC ab 0 arcs.length arcs.length,aC U 0 n (n+1),aC D 0 n (n+1),pt C 0,aC G 0 n (n+1)],56,8,0,true⟩:=hb.gB
 exact Rd.told (tb:=[]) (n:=60) (F:=[aQ 2,aQ 4,aR 6 (i64 o),aR 18 (aC ab 0 arcs.length arcs.length),aQ 26,aR 30 (i64 y.t),aQ 37,aQ 39,aQ 41,aQ 42,aQ 43,aQ 45,aR 46 (i64 x.m),aQ 47,aQ 49,aQ 51,aQ 52,aQ 53,aQ 55,aR 56 (i64 y.m),aQ 57,aQ 60,aO 61]) aG aF (aI prog) (fun _ _=>rfl) (by kernel_rfl) (hk (bT a6) (hk (qI (j:Int) ul (by omega) (by simp at a6;omega)) (hk (lD (a2)) (hk (lO 3 iU a8 rfl) (hk (qI o arcs.length a1.2.1.1 a1.2.1.2) (hk (lD (a3)) (hk (bT (x:=!(y.t==(v:Int))) (by rw[a0];rfl)) (hk (bT (x:=!(y.t==(v:Int))) (by rw[a0];rfl)) (hk (bT (x:=!(y.t==(v:Int))) (by rw[a0];rfl)) (hk (qI i arcs.length a1.1.1 a1.1.2) (hk (bT (x:=!(y.t==(v:Int))) (by rw[a0];rfl)) (hk (bT (x:=!(y.t==(v:Int))) (by rw[a0];rfl)) (hk (lD (a4)) (hk (bT (x:=!(y.t==(v:Int))) (by rw[a0];rfl)) (hk (bT (x:=!(y.t==(v:Int))) (by rw[a0];rfl)) (hk (bT (x:=!(y.t==(v:Int))) (by rw[a0];rfl)) (hk (qI o arcs.length a1.2.1.1 a1.2.1.2) (hk (bT (x:=!(y.t==(v:Int))) (by rw[a0];rfl)) (hk (bT (x:=!(y.t==(v:Int))) (by rw[a0];rfl)) (hk (lD (a5)) (hk (bT (x:=!(y.t==(v:Int))) (by rw[a0];rfl)) (hk (bT (x:=!(y.t==(v:Int))) (by rw[a0];rfl)) (hk (bF a7) hn)))))))))))))))))))))))
theorem rbx(bB v ul j:Nat)(i:Int)(ua:Option Addr)(uc:Nat)(dr dl di:Value){M:aB}(a0:(decide ((j:Int)<(ul:Int)))=false): ∃T1,Rd prog [] (q65.loopAt 2) Tryz.f65.ntmps (fr [(0,(pt bB 0)),(1,(i64 (v:Int))),(5,(i64 i)),(16,dr),(17,dl),(18,di),(29,(.slice ua ul uc)),(30,(i64 (ul:Int))),(31,(i64 (j:Int)))]) M (.exit 2) T1 M/\ [0,1,16,17,18].map T1.get= [some (pt bB 0),some (i64 (v:Int)),some dr,some dl,some di]:=by
 exact Rd.told (tb:=[]) (n:=60) (F:=[aO 2]) aG aF (aI prog) (fun _ _=>rfl) (by kernel_rfl) (hk (bF a0) hn)
open Tryz
theorem stepB{bB C K G R U D n:Nat}{es:List E4}{ev S:Value}{sb s0:HB}{gone:List Bool}{rank:List Int}{up down:List (List Int)}{us ds:List Value}{ub uo ul uc j v:Nat}{i o:Int}{dr dl di:Value}{M0 M:aB}(hM:aA M)(X0:Ext M0 M)(h0:M0.next=G)(hb:cW 56 79 42 22 53 ⟨⟨bB,C,K,G,R,U,D⟩,n,es,ev,S,⟨s0,gone,rank,up,down⟩,us,ds⟩ M){c:Int}{kk:Nat}(b3:HI n c sb)(a3:Bj n c sb kk s0)(b0:n<=60)(hc:0<=c/\2*c<9223372036854775808)(hi:0<=i/\i.toNat<sb.arcs.length)(ho:0<=o/\o.toNat<sb.arcs.length)(hlen:sb.arcs.length+kk<536870912)(hj:j<ul)(a9:bA prog 3 ⟨ub,uo+((j:Int):Int).toNat*1,none⟩ M=some (i64 o)):
  ∃T1 M',Rd prog [] (q65.loopAt 2) Tryz.f65.ntmps (fr [(0,pt bB 0),(1,i64 v),(5,i64 i),(16,dr),(17,dl),(18,di),(29,(aC ub uo ul uc)),(30,i64 ul),(31,i64 j)]) M .normal T1 M'/\ [0,1,5,16,17,18,29,30,31].map T1.get= [some (pt bB 0),some (i64 v),some (i64 i),some dr,some dl,some di,some (aC ub uo ul uc),some (i64 ul),some (i64 (IntKind.wrap .i64 ((j:Int)+(1:Int))))]/\Ext M0 M'/\aA M'/\ ∃S' b2 a6,cW 56 79 42 22 53 ⟨⟨bB,C,K,G,R,U,D⟩,n,es,ev,S',⟨sK n v i s0 o,gone,rank,up,down⟩,b2,a6⟩ M'/\(∀id b,M.get id=some b-> ¬(id=(⟨bB,C,K,G,R,U,D⟩:BK).a S\/id∈(⟨bB,C,K,G,R,U,D⟩:BK).ids)->M'.get id=some b)/\((⟨bB,C,K,G,R,U,D⟩:BK).a S'=(⟨bB,C,K,G,R,U,D⟩:BK).a S\/(⟨bB,C,K,G,R,U,D⟩:BK).a S'=(⟨bB,C,K,G,R,U,D⟩:BK).B\/M.next<=(⟨bB,C,K,G,R,U,D⟩:BK).a S')/\M.next<=M'.next:=by
 obtain⟨arcs,cur⟩:=s0
 have t1:=a3.old _ _ (xAe hi.2)
 have t2:=a3.old _ _ (xAe ho.2)
 obtain⟨p1,p2,p3,p4⟩:=b3.arc _ (List.getElem_mem hi.2)
 obtain⟨q1,q2,q3,q4⟩:=b3.arc _ (List.getElem_mem ho.2)
 generalize hx:sb.arcs[i.toNat]=x at t1 p1 p2 p3 p4
 generalize hy:sb.arcs[o.toNat]=y at t2 q1 q2 q3 q4
 simp only at t1 t2
 have li:=(xAg.1 t1).1
 have lo:=(xAg.1 t2).1
 have a2:=a3.len
 simp only at a2
 have a4:=qW t1
 have a5:=qW t2
 have a0:dJ arcs S M:=hb.acc.rows (by show arcs.length<=_;omega)
 have a1: ∃ab,S=aC ab 0 arcs.length arcs.length:=by
  rcases hb.acc with⟨_,h2⟩|⟨ab,h1,_⟩
  ·simp only at h2;rw[h2] at li;simp at li
  ·exact⟨ab,h1⟩
 obtain⟨ab,rfl⟩:=a1
 have l1:=mF (P:=prog) (ty:=3) (j:=1) (v:=i64 y.t) a0 t2 rfl bQ
 have l2:=mF (P:=prog) (ty:=3) (j:=2) (v:=i64 x.m) a0 t1 rfl bQ
 have l3:=mF (P:=prog) (ty:=3) (j:=2) (v:=i64 y.m) a0 t2 rfl bQ
 have a8:(0<=i/\i<(arcs.length:Int))/\(0<=o/\o<(arcs.length:Int))/\0<=(sJ arcs i).c+(sJ arcs o).c/\(sJ arcs i).c+(sJ arcs o).c<9223372036854775808:=by rw[a4,a5];exact⟨⟨hi.1,by omega⟩,⟨ho.1,by omega⟩,by omega,by omega⟩
 have b1:Oj ⟨⟨bB,C,K,G,R,U,D⟩,n,es,ev,aC ab 0 arcs.length arcs.length,⟨⟨arcs,cur⟩,gone,rank,up,down⟩,us,ds⟩ (mK x y i o):=⟨b0,⟨_,a3.hi⟩,by show arcs.length<_;omega,p1,q2,p3⟩
 have a7:sK n v i ⟨arcs,cur⟩ o=bif y.t !=(v:Int)&&x.m==y.m then fO n ⟨arcs,cur⟩ (mK x y i o) else⟨arcs,cur⟩:=by unfold sK;simp only [t1,t2]
 cases c1:y.t==(v:Int) with
 |true=>
  obtain⟨T1,h1,h2⟩:=rbv ab ub uo ul uc j v bB C K G R U D n es ev arcs cur gone rank up down us ds x y i o dr dl di (M:=M) hb a0 a4 a5 a8 b1 (xAb (by omega)) c1 a9 l1
  refine⟨T1,M,h1,h2,X0,hM,_,us,ds,?_,fun _ _ g _=>g,.inl rfl,Nat.le_refl _⟩
  rw[a7];simp only [bne,c1,Bool.not_true,Bool.false_and,cond_false];exact hb
 |false=>
  cases c2:x.m==y.m with
  |false=>
   obtain⟨T1,h1,h2⟩:=rbm ab ub uo ul uc j v bB C K G R U D n es ev arcs cur gone rank up down us ds x y i o dr dl di (M:=M) hb a0 a4 a5 a8 b1 (xAb (by omega)) c1 c2 a9 l1 l2 l3
   refine⟨T1,M,h1,h2,X0,hM,_,us,ds,?_,fun _ _ g _=>g,.inl rfl,Nat.le_refl _⟩
   rw[a7];simp only [bne,c1,c2,Bool.and_false,cond_false];exact hb
  |true=>
   obtain⟨T1,M',S',b2,a6,h1,h2,h3,h4,h5,h6⟩:=rbo ab ub uo ul uc j v bB C K G R U D n es ev arcs cur gone rank up down us ds x y i o dr dl di hM X0 h0 hb a0 a4 a5 a8 b1 (xAb (by omega)) c1 c2 a9 l1 l2 l3
   refine⟨T1,M',h1,h2,h3,h4,S',b2,a6,?_,h6⟩
   rw[a7];simp only [bne,c1,c2,Bool.not_false,Bool.true_and,cond_true];exact h5
theorem aAb{bB C K G R U D n:Nat}{es:List E4}{ev S:Value}{sb s0:HB}{gone:List Bool}{rank:List Int}{up down:List (List Int)}{us ds:List Value}{ul uc v:Nat}{ua:Option Addr}{i:Int}{ups:List Int}{dr dl di:Value}{M0 M:aB}(hM:aA M)(X0:Ext M0 M)(h0:M0.next=G)(hb:cW 56 79 42 22 53 ⟨⟨bB,C,K,G,R,U,D⟩,n,es,ev,S,⟨s0,gone,rank,up,down⟩,us,ds⟩ M){c:Int}{kk:Nat}(a6:HI n c sb)(b1:Bj n c sb kk s0)(a3:n<=60)(hc:0<=c/\2*c<9223372036854775808)(hi:0<=i/\i.toNat<sb.arcs.length)(a0: ∀o∈ups,0<=o/\o.toNat<sb.arcs.length)(hlen:sb.arcs.length+kk+ups.length<536870912)(b3:ups.length=ul)(hu:aH ups (.slice ua ul uc) (cI ((⟨bB,C,K,G,R,U,D⟩:BK).hideS S) M)):
  ∃M',bL prog [] (q65.loopAt 2) Tryz.f65.ntmps (fr [(0,pt bB 0),(1,i64 v),(5,i64 i),(16,dr),(17,dl),(18,di),(29,(.slice ua ul uc)),(30,i64 ul),(31,i64 ((0:Nat):Int))]) M (.exit 2) (fr [(0,pt bB 0),(1,i64 v),(16,dr),(17,dl),(18,di)]) M'/\Ext M0 M'/\aA M'/\ ∃S' a4 a1,cW 56 79 42 22 53 ⟨⟨bB,C,K,G,R,U,D⟩,n,es,ev,S',⟨tH n v ups s0 i,gone,rank,up,down⟩,a4,a1⟩ M'/\sI (⟨bB,C,K,G,R,U,D⟩:BK) S M S' M':=by
 subst b3
 obtain⟨⟨S',a4,a1⟩,M',h1,h2,h3,h4,h5⟩:=bL.for (P:=prog) (GL:= []) (b:=q65.loopAt 2) (nt:=Tryz.f65.ntmps) (id:=2) (σ:=Value×List Value×List Value) (n:=ups.length) (Inv:=fun j σ M1=>Ext M0 M1/\aA M1/\cW 56 79 42 22 53 ⟨⟨bB,C,K,G,R,U,D⟩,n,es,ev,σ.1,⟨(ups.take j).foldl (sK n v i) s0,gone,rank,up,down⟩,σ.2.1,σ.2.2⟩ M1/\sI (⟨bB,C,K,G,R,U,D⟩:BK) S M σ.1 M1)
  (F:=fun j _=> [(0,pt bB 0),(1,i64 v),(5,i64 i),(16,dr),(17,dl),(18,di),(29,(.slice ua ups.length uc)),(30,i64 ups.length),(31,i64 ((j:Nat):Int))])
  (O:=fun _=> [(0,pt bB 0),(1,i64 v),(16,dr),(17,dl),(18,di)])
  (by
   rintro j ⟨S1,b4,a8⟩ M1 hj ⟨X1,a5,a2,hF⟩
   simp only at a2 hF
   have a7:aH ups (.slice ua ups.length uc) M1:=eF (R:=aH) (AP.ext (R:=aH) hF.hids hu)
   obtain⟨ub,uo,rfl,_⟩:=bU a7 (by omega)
   have ht:ups[j]?=some ups[j]:=xAe hj
   have b2:=iX (P:=prog) (ty:=3) a7 ht rfl bQ
   have b0:Bj n c sb (kk+(ups.take j).length) ((ups.take j).foldl (sK n v i) s0):=b1.row (v:=v) a6 hi.2 (fun o ho=>(a0 o (List.mem_of_mem_take ho)).2)
   obtain⟨T1,M2,h1,h2,h3,h4,S2,b5,a9,h5,h6,h7,h8⟩:=stepB (v:=v) (dr:=dr) (dl:=dl) (di:=di) (uc:=uc) a5 X1 h0 a2 a6 b0 a3 hc hi (a0 _ (List.getElem_mem hj)) (by rw[List.length_take];omega) hj b2
   rw[bD (by omega)] at h2
   refine⟨(S2,b5,a9),T1,M2,h1,h2,h3,h4,?_,hF.step h6 h7 h8⟩
   rw[List.take_succ_eq_append_getElem hj,List.foldl_append]
   exact h5)
  (by
   rintro⟨S1,b4,a8⟩ M1 ⟨X1,a5,a2,hF⟩
   exact rbx bB v ups.length ups.length i ua uc dr dl di (M:=M1) (xAa (by omega)))
  ups.length 0 (by omega) (s:=(S,us,ds)) (M:=M) ⟨X0,hM,hb,sI.refl _ _ _⟩
 rw[List.take_length] at h4
 exact⟨M',h1,h2,h3,S',a4,a1,h4,h5⟩
open Tryz
theorem rdo(eb eo dl dc v k bB C K G R U D n:Nat)(es:List E4)(ev S:Value)(s0:HB)(gone:List Bool)(rank:List Int)(up down:List (List Int))(us ds:List Value)(i:Int)(ua:Option Addr)(ul uc:Nat)(ups:List Int)(sb:HB)(c:Int)(kk:Nat){M M0:aB}(hM:aA M)(X0:Ext M0 M)(h0:M0.next=G)(hb:cW 56 79 42 22 53 ⟨⟨bB,C,K,G,R,U,D⟩,n,es,ev,S,⟨s0,gone,rank,up,down⟩,us,ds⟩ M)(b3:HI n c sb)(a6:Bj n c sb kk s0)(a2:n<=60)(hc:0<=c/\2*c<9223372036854775808)(hi:0<=i/\i.toNat<sb.arcs.length)(a3: ∀o∈ups,0<=o/\o.toNat<sb.arcs.length)(a1:sb.arcs.length+kk+ups.length<536870912)(b4:ups.length=ul)(hu:aH ups (.slice ua ul uc) (cI ((⟨bB,C,K,G,R,U,D⟩:BK).hideS S) M))(hv:v<n)(b2:ua.isNone=true->ul=0/\uc=0)(a4:(decide ((k:Int)<(dl:Int)))=true)(a0:bA prog 3 ⟨eb,eo+((k:Int):Int).toNat*1,none⟩ M=some (i64 i))(b1:(us)[0+((v:Int):Int).toNat*1]?=some (.slice ua ul uc)): ∃T1 M' S5 u6 d7,Rd prog [] (q65.loopAt 0) Tryz.f65.ntmps (fr [(0,(pt bB 0)),(1,(i64 (v:Int))),(16,(aC eb eo dl dc)),(17,(i64 (dl:Int))),(18,(i64 (k:Int)))]) M .normal T1 M'/\ [0,1,16,17,18].map T1.get= [some (pt bB 0),some (i64 (v:Int)),some (aC eb eo dl dc),some (i64 (dl:Int)),some (i64 (IntKind.wrap .i64 ((k:Int)+(1:Int))))]/\Ext M0 M'/\aA M'/\cW 56 79 42 22 53 ⟨⟨bB,C,K,G,R,U,D⟩,n,es,ev,S5,⟨tH n v ups s0 i,gone,rank,up,down⟩,u6,d7⟩ M'/\sI (⟨bB,C,K,G,R,U,D⟩:BK) S M S5 M':=by
 have a5:M.get bB=some ⟨[i64 n,ev,aC R 0 n (n+1),S,aC U 0 n (n+1),aC D 0 n (n+1),pt C 0,aC G 0 n (n+1)],56,8,0,true⟩:=hb.gB
 have gU:M.get U=some ⟨us,22,1,0,true⟩:=hb.gU
 obtain⟨M1,a8,X3,a9,S5,u6,d7,b0,a7⟩:=aAb (v:=v) (i:=i) (ups:=ups) (dr:=(aC eb eo dl dc)) (dl:=(i64 (dl:Int))) (di:=(i64 (k:Int))) hM X0 h0 hb b3 a6 a2 hc hi a3 a1 b4 hu
 obtain⟨T1,h1,h2⟩:=Rd.told (tb:=[2]) (n:=60) (F:=[aQ 2,aQ 4,aR 6 (i64 i),aR 18 (aC U 0 n (n+1)),aQ 22,aR 24 (.slice ua ul uc),aQ 26,.blk 29 [0,1,5,16,17,18,29,30,31] .normal (fr [(0,(pt bB 0)),(1,(i64 (v:Int))),(16,(aC eb eo dl dc)),(17,(i64 (dl:Int))),(18,(i64 (k:Int)))]) M1]) aG aF (fun B=>wR (gL B) 2 a8) (fun _ h=>bZ h) (by kernel_rfl) (hk (bT a4) (hk (qI (k:Int) dl (by omega) (by simp at a4;omega)) (hk (lD (a0)) (hk (lO 4 zC a5 rfl) (hk (qI (v:Int) n (by omega) (by omega)) (hq (qL 22 U (0+((v:Int):Int).toNat*1) M (.slice ua ul uc)) (eO (bI (a:=⟨U,0+((v:Int):Int).toNat*1,none⟩) jW gU b1)) (hk (lN b2) (hq (.blk 2 (.loop (q65.loopAt 2)) Tryz.f65.ntmps [0,1,5,16,17,18,29,30,31] [some (pt bB 0),some (i64 (v:Int)),some (i64 i),some (aC eb eo dl dc),some (i64 (dl:Int)),some (i64 (k:Int)),some (.slice ua ul uc),some (i64 (ul:Int)),some (i64 0)] M .normal (fr [(0,(pt bB 0)),(1,(i64 (v:Int))),(16,(aC eb eo dl dc)),(17,(i64 (dl:Int))),(18,(i64 (k:Int)))]) M1) (fB rfl) hn))))))))
 exact⟨T1,M1,S5,u6,d7,h1,h2,X3,a9,b0,a7⟩
theorem rdx(bB v dl k:Nat)(da:Option Addr)(dc:Nat){M:aB}(a0:(decide ((k:Int)<(dl:Int)))=false): ∃T1,Rd prog [] (q65.loopAt 0) Tryz.f65.ntmps (fr [(0,(pt bB 0)),(1,(i64 (v:Int))),(16,(.slice da dl dc)),(17,(i64 (dl:Int))),(18,(i64 (k:Int)))]) M (.exit 0) T1 M/\ [].map T1.get= []:=by
 exact Rd.told (tb:=[]) (n:=60) (F:=[aO 2]) aG aF (aI prog) (fun _ _=>rfl) (by kernel_rfl) (hk (bF a0) hn)
theorem aAc{bB C K G R U D n:Nat}{es:List E4}{ev S:Value}{sb s0:HB}{gone:List Bool}{rank:List Int}{up down:List (List Int)}{us ds:List Value}{v dc:Nat}{da:Option Addr}{ups a0:List Int}{M0 M:aB}(hM:aA M)(X0:Ext M0 M)(h0:M0.next=G)(hb:cW 56 79 42 22 53 ⟨⟨bB,C,K,G,R,U,D⟩,n,es,ev,S,⟨s0,gone,rank,up,down⟩,us,ds⟩ M){c:Int}{kk:Nat}(b1:HI n c sb)(b5:Bj n c sb kk s0)(a4:n<=60)(hc:0<=c/\2*c<9223372036854775808)(hv:v<n)(b9:up[v]?=some ups)(hd: ∀i∈a0,0<=i/\i.toNat<sb.arcs.length)(a1: ∀o∈ups,0<=o/\o.toNat<sb.arcs.length)(hlen:sb.arcs.length+kk+(a0.length+1)*ups.length<536870912)(hdl:a0.length<1000000)(b6:aH a0 (.slice da a0.length dc) (cI ((⟨bB,C,K,G,R,U,D⟩:BK).hideS S) M)):
  ∃M',bL prog [] (q65.loopAt 0) Tryz.f65.ntmps (fr [(0,pt bB 0),(1,i64 v),(16,.slice da a0.length dc),(17,i64 a0.length),(18,i64 ((0:Nat):Int))]) M (.exit 0) (fr []) M'/\Ext M0 M'/\aA M'/\ ∃S' a6 a3,cW 56 79 42 22 53 ⟨⟨bB,C,K,G,R,U,D⟩,n,es,ev,S',⟨rA n v ups a0 s0,gone,rank,up,down⟩,a6,a3⟩ M'/\sI (⟨bB,C,K,G,R,U,D⟩:BK) S M S' M':=by
 obtain⟨⟨S',a6,a3⟩,M',h1,h2,h3,h4,h5⟩:=bL.for (P:=prog) (GL:= []) (b:=q65.loopAt 0) (nt:=Tryz.f65.ntmps) (id:=0) (σ:=Value×List Value×List Value) (n:=a0.length) (Inv:=fun j σ M1=>Ext M0 M1/\aA M1/\cW 56 79 42 22 53 ⟨⟨bB,C,K,G,R,U,D⟩,n,es,ev,σ.1,⟨(a0.take j).foldl (tH n v ups) s0,gone,rank,up,down⟩,σ.2.1,σ.2.2⟩ M1/\sI (⟨bB,C,K,G,R,U,D⟩:BK) S M σ.1 M1)
  (F:=fun j _=> [(0,pt bB 0),(1,i64 v),(16,.slice da a0.length dc),(17,i64 a0.length),(18,i64 ((j:Nat):Int))])
  (O:=fun _=> [])
  (by
   rintro j ⟨S1,b2,a7⟩ M1 hj ⟨X1,a8,a2,hF⟩
   simp only at a2 hF
   have a9:aH a0 (.slice da a0.length dc) M1:=eF (R:=aH) (AP.ext (R:=aH) hF.hids b6)
   obtain⟨eb,eo,rfl,_⟩:=bU a9 (by omega)
   have ht:a0[j]?=some a0[j]:=xAe hj
   have b7:=iX (P:=prog) (ty:=3) a9 ht rfl bQ
   have b4:Bj n c sb (kk+(a0.take j).length*ups.length) ((a0.take j).foldl (tH n v ups) s0):=b5.all (v:=v) b1 (fun o ho=>(hd o (List.mem_of_mem_take ho)).2) (fun o ho=>(a1 o ho).2)
   obtain⟨uv,b8,a5⟩:=a2.up.2 v ups b9
   obtain⟨ua,uc,rfl⟩:=aJ.form a5
   have hmul:(a0.take j).length*ups.length<=a0.length*ups.length:=Nat.mul_le_mul_right _ (by rw[List.length_take];omega)
   have b0:(a0.length+1)*ups.length=a0.length*ups.length+ups.length:=Nat.succ_mul _ _
   obtain⟨T1,M2,S2,c0,b3,h1,h2,h3,h4,h5,h6⟩:=rdo eb eo a0.length dc v j bB C K G R U D n es ev S1 _ gone rank up down b2 a7 a0[j] ua ups.length uc ups sb c _ a8 X1 h0 a2 b1 b4 a4 hc (hd _ (List.getElem_mem hj)) a1 (by omega) rfl a5 hv a5.ln (xAb (by omega)) b7 (by rw[Nat.zero_add,Nat.mul_one,Int.toNat_natCast];exact b8)
   rw[bD (by omega)] at h2
   refine⟨(S2,c0,b3),T1,M2,h1,h2,h3,h4,?_,hF.step h6.keep h6.a h6.next⟩
   rw[List.take_succ_eq_append_getElem hj,List.foldl_append]
   exact h5)
  (by
   rintro⟨S1,b2,a7⟩ M1 ⟨X1,a8,a2,hF⟩
   exact rdx bB v a0.length a0.length da dc (M:=M1) (xAa (by omega)))
  a0.length 0 (by omega) (s:=(S,us,ds)) (M:=M) ⟨X0,hM,hb,sI.refl _ _ _⟩
 rw[List.take_length] at h4
 exact⟨M',h1,h2,h3,S',a6,a3,h4,h5⟩
open Tryz
theorem rK65:Tryz.f65.results= #[]:=by kernel_rfl
theorem hw58(v bB C K G R U D n:Nat)(es:List E4)(ev S:Value)(s0:HB)(gone:List Bool)(rank:List Int)(up down:List (List Int))(us ds:List Value)(da:Option Addr)(dc:Nat)(ups a0:List Int)(sb:HB)(c:Int)(kk:Nat){M M0:aB}(hM:aA M)(X0:Ext M0 M)(h0:M0.next=G)(hb:cW 56 79 42 22 53 ⟨⟨bB,C,K,G,R,U,D⟩,n,es,ev,S,⟨s0,gone,rank,up,down⟩,us,ds⟩ M)(b5:HI n c sb)(a6:Bj n c sb kk s0)(a2:n<=60)(hc:0<=c/\2*c<9223372036854775808)(hv:v<n)(b6:up[v]?=some ups)(hd: ∀i∈a0,0<=i/\i.toNat<sb.arcs.length)(a4: ∀o∈ups,0<=o/\o.toNat<sb.arcs.length)(a1:sb.arcs.length+kk+(a0.length+1)*ups.length<536870912)(b2:a0.length<1000000)(b3:aH a0 (.slice da a0.length dc) (cI ((⟨bB,C,K,G,R,U,D⟩:BK).hideS S) M))(b4:da.isNone=true->a0.length=0/\dc=0)(b1:(ds)[0+((v:Int):Int).toNat*1]?=some (.slice da a0.length dc)): ∃M',Ev prog [] 65 [pt bB 0,i64 v] M (.tuple #[]) M'/\Ext M0 M'/\aA M'/\ ∃S' us' ds',cW 56 79 42 22 53 ⟨⟨bB,C,K,G,R,U,D⟩,n,es,ev,S',⟨rA n v ups a0 s0,gone,rank,up,down⟩,us',ds'⟩ M'/\sI (⟨bB,C,K,G,R,U,D⟩:BK) S M S' M':=by
 have a5:M.get bB=some ⟨[i64 n,ev,aC R 0 n (n+1),S,aC U 0 n (n+1),aC D 0 n (n+1),pt C 0,aC G 0 n (n+1)],56,8,0,true⟩:=hb.gB
 have gD:M.get D=some ⟨ds,22,1,0,true⟩:=hb.gD
 obtain⟨M1,a8,X3,a9,S5,u6,d7,b0,a7⟩:=aAc (v:=v) hM X0 h0 hb b5 a6 a2 hc hv b6 hd a4 a1 b2 b3
 have a3:oU prog [0] 60 Tryz.f65 q65 [pt bB 0,i64 v] M [aR 9 (aC D 0 n (n+1)),aQ 13,aR 15 (.slice da a0.length dc),aQ 17,.blk 20 [0,1,16,17,18] .normal (fr []) M1]=some (.normal,M1,[qL 30 bB 5 M (aC D 0 n (n+1)),.q (.inb (v:Int) n) (eD true),qL 22 D (0+((v:Int):Int).toNat*1) M (.slice da a0.length dc),.ln da a0.length dc,.blk 0 (.loop (q65.loopAt 0)) Tryz.f65.ntmps [0,1,16,17,18] [some (pt bB 0),some (i64 (v:Int)),some (.slice da a0.length dc),some (i64 (a0.length:Int)),some (i64 0)] M .normal (fr []) M1]):=by kernel_rfl
 exact⟨M1,Ev.told_none aG aF Tryz.func65 aAV (by kernel_rfl) rK65 (fun B=>wR (gL B) 0 a8) (fun _ h=>bZ h) a3 (.inr rfl) (hk (lC zC a5 rfl) (hk (dE (by omega) (by omega)) (hk (eO (bI (a:=⟨D,0+((v:Int):Int).toNat*1,none⟩) jW gD b1)) (hk (lN b4) (hk (fB rfl) hn))))),X3,a9,S5,u6,d7,b0,a7⟩
instance:Ro (fun v:Nat=> [i64 v]):=⟨fun{x y} h=>by simp only [i64,List.cons.injEq,Value.int.injEq,true_and,and_true] at h;omega⟩
def aAu(x:uS)(v:Nat):Prop:=x.n<=60/\v<x.n/\(∃c,HI x.n c x.s.b/\0<=c/\2*c<9223372036854775808)/\x.s.b.arcs.length<300000000/\ ∃ups downs,x.s.up[v]?=some ups/\x.s.down[v]?=some downs/\ups.length<=300/\downs.length<=300/\(∀i∈downs,0<=i/\i.toNat<x.s.b.arcs.length)/\(∀o∈ups,0<=o/\o.toNat<x.s.b.arcs.length)
abbrev ob58:OB (uS×Nat):=obB 56 79 42 22 53 (fun v:Nat=> [i64 ((v:Nat):Int)]) aAu (fun x v _ s=>s={x.s with b:=rA x.n v ((x.s.up[v]?).getD []) ((x.s.down[v]?).getD []) x.s.b})
theorem con65{x:uS×Nat}{lv:List Value}{M:aB}(hM:aA M)(h:ob58.A x lv M)(a6:ob58.lo x<=M.next): ∃v M',TO prog 65 ob58 lv M v M':=by
 have hA:=h
 obtain⟨⟨⟨bB,C,K,G,R,U,D⟩,n,es,ev,S,⟨s0,gone,rank,up,down⟩,us,ds⟩,v⟩:=x
 obtain⟨rfl,hb,hn,hv,⟨c,a1,a5,a8⟩,hl,ups,a0,a4,a3,l1,l2,q1,q2⟩:=h
 simp only at hb hn hv a1 hl a4 a3 q1 q2
 have X0:Ext (cut G M) M:=Ext.cut a6
 obtain⟨dv,a9,a2⟩:=hb.down.2 v a0 a3
 obtain⟨da,dc,rfl⟩:=aJ.form a2
 have hmul:(a0.length+1)*ups.length<=301*300:=Nat.mul_le_mul (by omega) l1
 obtain⟨M',h1,h2,h3,S',b0,a7,h4,h5⟩:=hw58 v bB C K G R U D n es ev S s0 gone rank up down us ds da dc ups a0 s0 c 0 hM X0 rfl hb a1 (Bj.zero a5 a1) hn ⟨a5,a8⟩ hv a4 q1 q2 (by omega) (by omega) a2 a2.ln (by rw[Nat.zero_add,Nat.mul_one,Int.toNat_natCast];exact a9)
 refine⟨_,M',h1,_,hA,a6,h2,h5.keep,S',b0,a7,_,h4,h5.a,?_⟩
 simp only [a4,a3,Option.getD_some]
end Go.Proofs.YtdaglldahidmbaaGreat
