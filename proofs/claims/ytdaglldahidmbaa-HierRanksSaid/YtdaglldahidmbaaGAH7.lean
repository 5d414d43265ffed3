/-
  Package hier: each of its laws for every argument; no conditions. The last text states which.
-/
import Derived.Test.YtdaglldahidmbaaGAHR0
import Derived.Test.YtdaglldahidmbaaGAmTn
set_option linter.unusedVariables false
set_option linter.unusedSimpArgs false
open Go Go.Am Go.Proofs
namespace Go.Proofs.Ytdaglldahidmbaa
set_option maxRecDepth 100000
theorem rK50:Try.f50.results= #[]:=by kernel_rfl
theorem aAx(bB C K G R U D n:Nat)(es:List E4)(ev:Value)(Sa:Option Addr)(Sc:Nat)(arcs:List A7)(cur:List Int)(gone:List Bool)(rank:List Int)(up down:List (List Int))(us ds:List Value)(a:A7){M M0:aA}(hM:aB M)(X0:Ext M0 M)(h0:M0.next=G)(hb:cM 53 73 42 22 46 ⟨⟨bB,C,K,G,R,U,D⟩,n,es,ev,.slice Sa arcs.length Sc,⟨⟨arcs,cur⟩,gone,rank,up,down⟩,us,ds⟩ M)(hln:Sa.isNone=true->arcs.length=0/\Sc=0)(hal:arcs.length<=9223372036854775807)(hal30:arcs.length<1073741824)(hcond:n<=60/\cur.length=n*n*5/\(0<=a.f/\a.f<(n:Int))/\(0<=a.t/\a.t<(n:Int))/\(0<=a.m/\a.m<5)/\(bC cur (iS n a)= -1\/(0<=bC cur (iS n a)/\bC cur (iS n a)<(arcs.length:Int))))(cc0:(fB (dK arcs) (bC cur (iS n a)) a.c)=true): ∃S53 M',Ev Try.prog [] 50 [pt bB 0,.agg ⟨[i64 a.f,i64 a.t,i64 a.m,i64 a.c,i64 a.e,i64 a.a,i64 a.b]⟩] M (.tuple #[]) M'/\Ext M0 M'/\aB M'/\(∀id k,M.get id=some k-> ¬(id=(⟨bB,C,K,G,R,U,D⟩:BK).a (.slice Sa arcs.length Sc)\/id∈ [bB,C,K,G,R,U,D])->M'.get id=some k)/\cM 53 73 42 22 46 ⟨⟨bB,C,K,G,R,U,D⟩,n,es,ev,S53,⟨⟨(arcs++ [a]),iD dK (⟨C,K,bB,n,cur,arcs,a,(arcs.length:Int)⟩:LX (List A7))⟩,gone,rank,up,down⟩,us,ds⟩ M'/\((⟨bB,C,K,G,R,U,D⟩:BK).a S53=(⟨bB,C,K,G,R,U,D⟩:BK).a (.slice Sa arcs.length Sc)\/(⟨bB,C,K,G,R,U,D⟩:BK).a S53=bB\/M.next<=(⟨bB,C,K,G,R,U,D⟩:BK).a S53):=by
 have gbB:M.get bB=some ⟨[i64 n,ev,aD R 0 n (n+1),.slice Sa arcs.length Sc,aD U 0 n (n+1),aD D 0 n (n+1),pt C 0,aD G 0 n (n+1)],53,8,0,true⟩:=hb.gB
 have gC:M.get C=some ⟨[i64 n,aD K 0 (n*n*5) (n*n*5+1),.func (.func 46) ⟨[pt bB 0]⟩ ⟨[]⟩],73,3,0,true⟩:=hb.gC
 have gK:M.get K=some ⟨cur.map i64,3,1,0,true⟩:=hb.gK
 have gG:M.get G=some ⟨gone.map Value.bool,4,1,0,true⟩:=hb.gG
 have gR:M.get R=some ⟨rank.map i64,3,1,0,true⟩:=hb.gR
 have gU:M.get U=some ⟨us,22,1,0,true⟩:=hb.gU
 have gD:M.get D=some ⟨ds,22,1,0,true⟩:=hb.gD
 have nbB:M0.next<=bB:=by rw[h0];exact hb.lo bB (by simp [BK.ids])
 have nC:M0.next<=C:=by rw[h0];exact hb.lo C (by simp [BK.ids])
 have nK:M0.next<=K:=by rw[h0];exact hb.lo K (by simp [BK.ids])
 have nG:M0.next<=G:=by rw[h0];exact hb.lo G (by simp [BK.ids])
 have nR:M0.next<=R:=by rw[h0];exact hb.lo R (by simp [BK.ids])
 have nU:M0.next<=U:=by rw[h0];exact hb.lo U (by simp [BK.ids])
 have nD:M0.next<=D:=by rw[h0];exact hb.lo D (by simp [BK.ids])
 have hnd:([bB,C,K,G,R,U,D]:List Nat).Nodup:=hb.nd
 obtain⟨dbBC,dbBK,dbBG,dbBR,dbBU,dbBD,dCK,dCG,dCR,dCU,dCD,dKG,dKR,dKU,dKD,dGR,dGU,dGD,dRU,dRD,dUD⟩:=Ze hnd
 have i9:cU 42 7 M0 [bB,C,K,G,R,U,D] arcs.length ((arcs.map kB).flatten) (.slice Sa arcs.length Sc) M:=hb.acc.acc (Nat.le_of_eq h0)
 obtain⟨b1,M2,b6,g8,g5,E6,j1⟩:=bG hM ⟨[i64 a.f,i64 a.t,i64 a.m,i64 a.c,i64 a.e,i64 a.a,i64 a.b],42,7,0,true⟩
 have j8:M0.next<=b1:=by rw[<-b6];exact X0.next
 have d6:bB≠b1:=by have:=aA.lt_of_get gbB;omega
 have g2:C≠b1:=by have:=aA.lt_of_get gC;omega
 have b4:K≠b1:=by have:=aA.lt_of_get gK;omega
 have g4:G≠b1:=by have:=aA.lt_of_get gG;omega
 have g6:R≠b1:=by have:=aA.lt_of_get gR;omega
 have g7:U≠b1:=by have:=aA.lt_of_get gU;omega
 have g3:D≠b1:=by have:=aA.lt_of_get gD;omega
 have A8:=i9.new b6 E6
 have g9:=E6.old gbB
 have d7:=E6.old gC
 have d8:=E6.old gK
 have h1:=E6.old gG
 have h2:=E6.old gR
 have h3:=E6.old gU
 have h4:=E6.old gD
 have j4:=E6.next
 have f8:=X0.trans E6
 obtain⟨f5,j9,a7,c7,c9,c2,j5,a0,c6⟩:=mZ (P:=Try.prog) (o:=Oa 73 46 dK (Ds 53) (fun y i=>0<=i/\i<(y.length:Int))) (f:=48) (x:=⟨C,K,bB,n,cur,arcs,a,(arcs.length:Int)⟩) (l:= [pt C 0,.agg ⟨[i64 a.f,i64 a.t,i64 a.m,i64 a.c,i64 a.e,i64 a.a,i64 a.b]⟩,i64 (arcs.length:Int)]) j1 f8 (nK) (Nat.le_of_lt (aA.lt_of_get d8)) (⟨rfl,d7,d8,⟨bB,i64 n,ev,aD R 0 n (n+1),.slice Sa arcs.length Sc,aD U 0 n (n+1),aD D 0 n (n+1),pt C 0,aD G 0 n (n+1),rfl,bS.2 ⟨Ge dbBK,g9⟩,Hw A8 (by simp) hal⟩,dCK,hcond⟩) Po
 have b9:=a0 _ _ g9 (fun e=>dbBK e)
 have d9:=a0 _ _ d7 (fun e=>dCK e)
 have e0:=a0 _ _ h1 (fun e=>dKG e.symm)
 have e1:=a0 _ _ h2 (fun e=>dKR e.symm)
 have e2:=a0 _ _ h3 (fun e=>dKU e.symm)
 have e3:=a0 _ _ h4 (fun e=>dKD e.symm)
 have c0:=a0 _ _ g5 (fun e=>b4 e.symm)
 obtain⟨b8,gK2x⟩:=c6
 have f2:a7.get K=some ⟨(iD dK (⟨C,K,bB,n,cur,arcs,a,(arcs.length:Int)⟩:LX (List A7))).map i64,3,1,0,true⟩:=gK2x
 subst b8
 have j0:=A8.turn (x:=K) (by simp) a0
 obtain⟨a4,b2,a6,b7,e4,a3,c3⟩:=bG c2 ⟨[i64 a.f,i64 a.t,i64 a.m,i64 a.c,i64 a.e,i64 a.a,i64 a.b],42,7,0,true⟩
 have j3:M0.next<=a4:=by rw[<-a6];exact c9.next
 have b5:bB≠a4:=by have:=aA.lt_of_get b9;omega
 have d0:C≠a4:=by have:=aA.lt_of_get d9;omega
 have d3:K≠a4:=by have:=aA.lt_of_get f2;omega
 have d2:G≠a4:=by have:=aA.lt_of_get e0;omega
 have d4:R≠a4:=by have:=aA.lt_of_get e1;omega
 have d5:U≠a4:=by have:=aA.lt_of_get e2;omega
 have d1:D≠a4:=by have:=aA.lt_of_get e3;omega
 have db1b34:b1≠a4:=by have:=aA.lt_of_get c0;omega
 have f6:=j0.new a6 a3
 have e5:=a3.old b9
 have e6:=a3.old d9
 have e7:=a3.old f2
 have e8:=a3.old e0
 have e9:=a3.old e1
 have f0:=a3.old e2
 have f1:=a3.old e3
 have h5:=a3.old c0
 have j6:=a3.next
 have f9:=c9.trans a3
 obtain⟨b0,S53,b3,q55,g0,c4,a9,a2,c8,a5⟩:=Fq (P:=Try.prog) (sT:=28) (xT:=28) (y:=56) (c:=2) f6 f9 c3 (by intro x hx;simp only [List.mem_cons,List.not_mem_nil,or_false] at hx;rcases hx with rfl|rfl|rfl|rfl|rfl|rfl|rfl|rfl|rfl<;>first|exact aA.lt_of_get e4|exact aA.lt_of_get h5|exact aA.lt_of_get e5|exact aA.lt_of_get e6|exact aA.lt_of_get e7|exact aA.lt_of_get e8|exact aA.lt_of_get e9|exact aA.lt_of_get f0|exact aA.lt_of_get f1) (by kernel_rfl) (by kernel_rfl) (by kernel_rfl) (by kernel_rfl) (by decide) (by decide) rfl hal30 e4 (o:=0) (new:= [i64 a.f,i64 a.t,i64 a.m,i64 a.c,i64 a.e,i64 a.a,i64 a.b]) rfl rfl rfl
 have h6:=a2 _ _ e5 (by simp)
 have h7:=a2 _ _ e6 (by simp)
 have h8:=a2 _ _ e7 (by simp)
 have h9:=a2 _ _ e8 (by simp)
 have i0:=a2 _ _ e9 (by simp)
 have i1:=a2 _ _ f0 (by simp)
 have i2:=a2 _ _ f1 (by simp)
 obtain⟨a8,q72,c1,a1,g1,c5,j7⟩:=bH (o:=3) (v:=S53) (new:= [i64 (n:Int),ev,aD R 0 n (n+1),S53,aD U 0 n (n+1),aD D 0 n (n+1),pt C 0,aD G 0 n (n+1)]) g0 nbB c4 dS28 h6 (by rw[cC a9.isCell];rfl) (by rw[cC a9.isCell];show(isCell _&&true)=true;rw[a9.isCell];rfl) (Nat.zero_le _) (Nat.le_of_ble_eq_true rfl) (by rw[cC a9.isCell];rfl)
 replace c1:a8.get bB=some ⟨[i64 (n:Int),ev,aD R 0 n (n+1),S53,aD U 0 n (n+1),aD D 0 n (n+1),pt C 0,aD G 0 n (n+1)],53,8,0,true⟩:=c1
 have f7:=a9.keep (by simp) (fun id h _=>a1 id h)
 have i3:=(a1 _ (Ne.symm dbBC)).trans h7
 have i4:=(a1 _ (Ne.symm dbBK)).trans h8
 have i5:=(a1 _ (Ne.symm dbBG)).trans h9
 have i6:=(a1 _ (Ne.symm dbBR)).trans i0
 have i7:=(a1 _ (Ne.symm dbBU)).trans i1
 have i8:=(a1 _ (Ne.symm dbBD)).trans i2
 have hraw:oU Try.prog [] 60 Try.f50 q50 [pt bB 0,.agg ⟨[i64 a.f,i64 a.t,i64 a.m,i64 a.c,i64 a.e,i64 a.a,i64 a.b]⟩] M [bL 1 (pt b1 0) M2,aU 9 (pt C 0),aU 11 (.agg ⟨[i64 a.f,i64 a.t,i64 a.m,i64 a.c,i64 a.e,i64 a.a,i64 a.b]⟩),aU 21 (.slice Sa arcs.length Sc),aM 23,.at 25 ((bif f5 then 1 else 2),.val (.bool (fB (dK arcs) (bC cur (iS n a)) a.c)),a7),aM 26,aU 38 (.slice Sa arcs.length Sc),aU 40 (.agg ⟨[i64 a.f,i64 a.t,i64 a.m,i64 a.c,i64 a.e,i64 a.a,i64 a.b]⟩),bL 42 (aD a4 0 1 2) b2,.at 44 ((bif b0 then 1 else 2),.val S53,b3),lP 52 a8]=some (.normal,a8,[.eq (fE Try.prog 42 (.agg ⟨[i64 a.f,i64 a.t,i64 a.m,i64 a.c,i64 a.e,i64 a.a,i64 a.b]⟩) M) (1,.val (pt b1 0),M2),qL 51 bB 6 M2 (pt C 0),qL 42 b1 0 M2 (.agg ⟨[i64 a.f,i64 a.t,i64 a.m,i64 a.c,i64 a.e,i64 a.a,i64 a.b]⟩),qL 28 bB 3 M2 (.slice Sa arcs.length Sc),.ln Sa arcs.length Sc,.cl 48 [pt C 0,.agg ⟨[i64 a.f,i64 a.t,i64 a.m,i64 a.c,i64 a.e,i64 a.a,i64 a.b]⟩,i64 (arcs.length:Int)] M2 ((bif f5 then 1 else 2),.val (.bool (fB (dK arcs) (bC cur (iS n a)) a.c)),a7),qT (fB (dK arcs) (bC cur (iS n a)) a.c),qL 28 bB 3 a7 (.slice Sa arcs.length Sc),qL 42 b1 0 a7 (.agg ⟨[i64 a.f,i64 a.t,i64 a.m,i64 a.c,i64 a.e,i64 a.a,i64 a.b]⟩),.eq (bE Try.prog 28 1 [(0,(.agg ⟨[i64 a.f,i64 a.t,i64 a.m,i64 a.c,i64 a.e,i64 a.a,i64 a.b]⟩))] a7) (1,.val (aD a4 0 1 2),b2),.q (.append [28,28] (.slice Sa arcs.length Sc) (aD a4 0 1 2) b2) ((bif b0 then 1 else 2),.val S53,b3),qS 28 bB 3 S53 b3 a8]):=by cases b0<;>kernel_rfl
 have hkp: ∀id k,M.get id=some k-> ¬(id=(⟨bB,C,K,G,R,U,D⟩:BK).a (.slice Sa arcs.length Sc)\/id∈ [bB,C,K,G,R,U,D])->a8.get id=some k:=fun id k g hown=>by
  have j2:=BK.a_ne (k:=⟨bB,C,K,G,R,U,D⟩) (S:=(.slice Sa arcs.length Sc)) (id:=id) (fun e=>hown (.inl e))
  have f3:id∉ [bB,C,K,G,R,U,D]:=fun e=>hown (.inr e)
  simp only [List.mem_cons,List.not_mem_nil,or_false,not_or] at f3
  obtain⟨h_bB,h_C,h_K,h_G,h_R,h_U,h_D⟩:=f3
  have g:=E6.old g
  have g:=a0 id k g (h_K)
  have g:=a3.old g
  have g:=c8 id k g j2
  have g:=((fun id h _=>a1 id h) id h_bB (aA.lt_of_get g)).trans g
  exact g
 refine⟨S53,a8,Ev.told_none aJ aI Try.func50 Rc (by kernel_rfl) rK50 (fun B=>lO (Rw 48 (TC.ok (Q:=(Rv (Oa 73 46 dK (Ds 53) (fun y i=>0<=i/\i<(y.length:Int))))) _) (gQ _))) (fun _ _=>rfl) hraw (.inr rfl) (hk (bZ (by rw[<-b6,<-g8];kernel_rfl) Nat.one_ne_zero) (hk (lC Ni g9 rfl) (hk (lA ⟨Kz,As⟩ g5 rfl) (hk (lC lR g9 rfl) (hk (lN hln) (hk (c7 _ rfl) (hk (bT cc0) (hk (lC lR b9 rfl) (hk (lA ⟨Kz,As⟩ c0 rfl) (hk (bZ (by rw[<-a6,<-b7];kernel_rfl) Nat.one_ne_zero) (hk (jD q55 (by cases b0<;>simp)) (hk (eF q72) hn)))))))))))),g1,c5,hkp,?_,.inr (.inr (Nat.le_trans (by omega) (a5 ⟨bB,C,K,G,R,U,D⟩)))⟩
 exact cM.next (x:=⟨⟨bB,C,K,G,R,U,D⟩,n,es,ev,.slice Sa arcs.length Sc,⟨⟨arcs,cur⟩,gone,rank,up,down⟩,us,ds⟩) (s:=⟨⟨(arcs++ [a]),iD dK (⟨C,K,bB,n,cur,arcs,a,(arcs.length:Int)⟩:LX (List A7))⟩,gone,rank,up,down⟩) hb hkp (.inr (.inr (Nat.le_trans (by omega) (a5 ⟨bB,C,K,G,R,U,D⟩)))) c1 i3 i4 i5 i6 i7 i8 (fC.of_acc (arcs:=arcs++ [a]) (f7.less (fun x hx=>List.mem_cons_of_mem _ (List.mem_cons_of_mem _ (hx)))) (by simp) (by simp [kB]) (Nat.le_of_eq h0.symm)) (hb.up.ext (iA (x:=⟨⟨bB,C,K,G,R,U,D⟩,n,es,ev,.slice Sa arcs.length Sc,⟨⟨arcs,cur⟩,gone,rank,up,down⟩,us,ds⟩) hkp (.inr (.inr (Nat.le_trans (by omega) (a5 ⟨bB,C,K,G,R,U,D⟩)))))) (hb.down.ext (iA (x:=⟨⟨bB,C,K,G,R,U,D⟩,n,es,ev,.slice Sa arcs.length Sc,⟨⟨arcs,cur⟩,gone,rank,up,down⟩,us,ds⟩) hkp (.inr (.inr (Nat.le_trans (by omega) (a5 ⟨bB,C,K,G,R,U,D⟩))))))
theorem aAw(bB C K G R U D n:Nat)(es:List E4)(ev:Value)(Sa:Option Addr)(Sc:Nat)(arcs:List A7)(cur:List Int)(gone:List Bool)(rank:List Int)(up down:List (List Int))(us ds:List Value)(a:A7){M M0:aA}(hM:aB M)(X0:Ext M0 M)(h0:M0.next=G)(hb:cM 53 73 42 22 46 ⟨⟨bB,C,K,G,R,U,D⟩,n,es,ev,.slice Sa arcs.length Sc,⟨⟨arcs,cur⟩,gone,rank,up,down⟩,us,ds⟩ M)(hln:Sa.isNone=true->arcs.length=0/\Sc=0)(hal:arcs.length<=9223372036854775807)(hal30:arcs.length<1073741824)(hcond:n<=60/\cur.length=n*n*5/\(0<=a.f/\a.f<(n:Int))/\(0<=a.t/\a.t<(n:Int))/\(0<=a.m/\a.m<5)/\(bC cur (iS n a)= -1\/(0<=bC cur (iS n a)/\bC cur (iS n a)<(arcs.length:Int))))(cc0:(fB (dK arcs) (bC cur (iS n a)) a.c)=false): ∃M',Ev Try.prog [] 50 [pt bB 0,.agg ⟨[i64 a.f,i64 a.t,i64 a.m,i64 a.c,i64 a.e,i64 a.a,i64 a.b]⟩] M (.tuple #[]) M'/\Ext M0 M'/\aB M'/\(∀id k,M.get id=some k-> ¬(id=(⟨bB,C,K,G,R,U,D⟩:BK).a (.slice Sa arcs.length Sc)\/id∈ [bB,C,K,G,R,U,D])->M'.get id=some k)/\cM 53 73 42 22 46 ⟨⟨bB,C,K,G,R,U,D⟩,n,es,ev,.slice Sa arcs.length Sc,⟨⟨arcs,iD dK (⟨C,K,bB,n,cur,arcs,a,(arcs.length:Int)⟩:LX (List A7))⟩,gone,rank,up,down⟩,us,ds⟩ M':=by
 have gbB:M.get bB=some ⟨[i64 n,ev,aD R 0 n (n+1),.slice Sa arcs.length Sc,aD U 0 n (n+1),aD D 0 n (n+1),pt C 0,aD G 0 n (n+1)],53,8,0,true⟩:=hb.gB
 have gC:M.get C=some ⟨[i64 n,aD K 0 (n*n*5) (n*n*5+1),.func (.func 46) ⟨[pt bB 0]⟩ ⟨[]⟩],73,3,0,true⟩:=hb.gC
 have gK:M.get K=some ⟨cur.map i64,3,1,0,true⟩:=hb.gK
 have gG:M.get G=some ⟨gone.map Value.bool,4,1,0,true⟩:=hb.gG
 have gR:M.get R=some ⟨rank.map i64,3,1,0,true⟩:=hb.gR
 have gU:M.get U=some ⟨us,22,1,0,true⟩:=hb.gU
 have gD:M.get D=some ⟨ds,22,1,0,true⟩:=hb.gD
 have nK:M0.next<=K:=by rw[h0];exact hb.lo K (by simp [BK.ids])
 have hnd:([bB,C,K,G,R,U,D]:List Nat).Nodup:=hb.nd
 obtain⟨dbBC,dbBK,dbBG,dbBR,dbBU,dbBD,dCK,dCG,dCR,dCU,dCD,dKG,dKR,dKU,dKD,dGR,dGU,dGD,dRU,dRD,dUD⟩:=Ze hnd
 have c6:cU 42 7 M0 [bB,C,K,G,R,U,D] arcs.length ((arcs.map kB).flatten) (.slice Sa arcs.length Sc) M:=hb.acc.acc (Nat.le_of_eq h0)
 obtain⟨b1,M2,a7,b4,g5,E6,c8⟩:=bG hM ⟨[i64 a.f,i64 a.t,i64 a.m,i64 a.c,i64 a.e,i64 a.a,i64 a.b],42,7,0,true⟩
 have A8:=c6.new a7 E6
 have g9:=E6.old gbB
 have a8:=E6.old gC
 have a9:=E6.old gK
 have b5:=E6.old gG
 have b6:=E6.old gR
 have b7:=E6.old gU
 have b8:=E6.old gD
 have b2:=X0.trans E6
 obtain⟨a6,d0,a1,a5,b3,a3,c9,a0,a4⟩:=mZ (P:=Try.prog) (o:=Oa 73 46 dK (Ds 53) (fun y i=>0<=i/\i<(y.length:Int))) (f:=48) (x:=⟨C,K,bB,n,cur,arcs,a,(arcs.length:Int)⟩) (l:= [pt C 0,.agg ⟨[i64 a.f,i64 a.t,i64 a.m,i64 a.c,i64 a.e,i64 a.a,i64 a.b]⟩,i64 (arcs.length:Int)]) c8 b2 (nK) (Nat.le_of_lt (aA.lt_of_get a9)) (⟨rfl,a8,a9,⟨bB,i64 n,ev,aD R 0 n (n+1),.slice Sa arcs.length Sc,aD U 0 n (n+1),aD D 0 n (n+1),pt C 0,aD G 0 n (n+1),rfl,bS.2 ⟨Ge dbBK,g9⟩,Hw A8 (by simp) hal⟩,dCK,hcond⟩) Po
 have b9:=a0 _ _ g9 (fun e=>dbBK e)
 have c0:=a0 _ _ a8 (fun e=>dCK e)
 have c1:=a0 _ _ b5 (fun e=>dKG e.symm)
 have c2:=a0 _ _ b6 (fun e=>dKR e.symm)
 have c3:=a0 _ _ b7 (fun e=>dKU e.symm)
 have c4:=a0 _ _ b8 (fun e=>dKD e.symm)
 obtain⟨a2,gK2x⟩:=a4
 have c5:a1.get K=some ⟨(iD dK (⟨C,K,bB,n,cur,arcs,a,(arcs.length:Int)⟩:LX (List A7))).map i64,3,1,0,true⟩:=gK2x
 subst a2
 have c7:=A8.turn (x:=K) (by simp) a0
 have hraw:oU Try.prog [] 60 Try.f50 q50 [pt bB 0,.agg ⟨[i64 a.f,i64 a.t,i64 a.m,i64 a.c,i64 a.e,i64 a.a,i64 a.b]⟩] M [bL 1 (pt b1 0) M2,aU 9 (pt C 0),aU 11 (.agg ⟨[i64 a.f,i64 a.t,i64 a.m,i64 a.c,i64 a.e,i64 a.a,i64 a.b]⟩),aU 21 (.slice Sa arcs.length Sc),aM 23,.at 25 ((bif a6 then 1 else 2),.val (.bool (fB (dK arcs) (bC cur (iS n a)) a.c)),a1),aO 26]=some (.normal,a1,[.eq (fE Try.prog 42 (.agg ⟨[i64 a.f,i64 a.t,i64 a.m,i64 a.c,i64 a.e,i64 a.a,i64 a.b]⟩) M) (1,.val (pt b1 0),M2),qL 51 bB 6 M2 (pt C 0),qL 42 b1 0 M2 (.agg ⟨[i64 a.f,i64 a.t,i64 a.m,i64 a.c,i64 a.e,i64 a.a,i64 a.b]⟩),qL 28 bB 3 M2 (.slice Sa arcs.length Sc),.ln Sa arcs.length Sc,.cl 48 [pt C 0,.agg ⟨[i64 a.f,i64 a.t,i64 a.m,i64 a.c,i64 a.e,i64 a.a,i64 a.b]⟩,i64 (arcs.length:Int)] M2 ((bif a6 then 1 else 2),.val (.bool (fB (dK arcs) (bC cur (iS n a)) a.c)),a1),qF (fB (dK arcs) (bC cur (iS n a)) a.c)]):=by cases a6<;>kernel_rfl
 have hkp: ∀id k,M.get id=some k-> ¬(id=(⟨bB,C,K,G,R,U,D⟩:BK).a (.slice Sa arcs.length Sc)\/id∈ [bB,C,K,G,R,U,D])->a1.get id=some k:=fun id k g hown=>by
  have b0:id∉ [bB,C,K,G,R,U,D]:=fun e=>hown (.inr e)
  simp only [List.mem_cons,List.not_mem_nil,or_false,not_or] at b0
  obtain⟨h_bB,h_C,h_K,h_G,h_R,h_U,h_D⟩:=b0
  have g:=E6.old g
  have g:=a0 id k g (h_K)
  exact g
 refine⟨a1,Ev.told_none aJ aI Try.func50 Rc (by kernel_rfl) rK50 (fun B=>lO (Rw 48 (TC.ok (Q:=(Rv (Oa 73 46 dK (Ds 53) (fun y i=>0<=i/\i<(y.length:Int))))) _) (gQ _))) (fun _ _=>rfl) hraw (.inr rfl) (hk (bZ (by rw[<-a7,<-b4];kernel_rfl) Nat.one_ne_zero) (hk (lC Ni g9 rfl) (hk (lA ⟨Kz,As⟩ g5 rfl) (hk (lC lR g9 rfl) (hk (lN hln) (hk (a5 _ rfl) (hk (bF cc0) hn))))))),b3,a3,hkp,?_⟩
 exact cM.next (x:=⟨⟨bB,C,K,G,R,U,D⟩,n,es,ev,.slice Sa arcs.length Sc,⟨⟨arcs,cur⟩,gone,rank,up,down⟩,us,ds⟩) (s:=⟨⟨arcs,iD dK (⟨C,K,bB,n,cur,arcs,a,(arcs.length:Int)⟩:LX (List A7))⟩,gone,rank,up,down⟩) hb hkp (.inl rfl) b9 c0 c5 c1 c2 c3 c4 (fC.of_acc (c7.less (fun x hx=>List.mem_cons_of_mem _ (hx))) rfl rfl (Nat.le_of_eq h0.symm)) (hb.up.ext (iA (x:=⟨⟨bB,C,K,G,R,U,D⟩,n,es,ev,.slice Sa arcs.length Sc,⟨⟨arcs,cur⟩,gone,rank,up,down⟩,us,ds⟩) hkp (.inl rfl))) (hb.down.ext (iA (x:=⟨⟨bB,C,K,G,R,U,D⟩,n,es,ev,.slice Sa arcs.length Sc,⟨⟨arcs,cur⟩,gone,rank,up,down⟩,us,ds⟩) hkp (.inl rfl)))
instance:On (fun a:A7=> [Value.agg ⟨kB a⟩]):=⟨fun{x y} h=>by simp only [List.cons.injEq,Value.agg.injEq,Array.mk.injEq,and_true] at h;obtain⟨x1,x2,x3,x4,x5,x6,x7⟩:=x;obtain⟨y1,y2,y3,y4,y5,y6,y7⟩:=y;simpa [i64] using h⟩
def Lr(x:tJ)(a:A7):Prop:=x.n<=60/\(∃c,HI x.n c x.s.b)/\x.s.b.arcs.length<536870912/\(0<=a.f/\a.f<x.n)/\(0<=a.t/\a.t<x.n)/\(0<=a.m/\a.m<5)
abbrev ob50:OB (tJ×A7):=Zf 53 73 42 22 46 (fun a=> [.agg ⟨kB a⟩]) Lr (fun x a _ s=>s={x.s with b:=kN x.n x.s.b a})
theorem Uc{x:tJ×A7}{lv:List Value}{M:aA}(hM:aB M)(h:ob50.A x lv M)(hlo:ob50.lo x<=M.next): ∃v M',TO Try.prog 50 ob50 lv M v M':=by
 have hA:=h
 obtain⟨⟨⟨bB,C,K,G,R,U,D⟩,n,es,ev,S,⟨⟨arcs,cur⟩,gone,rank,up,down⟩,us,ds⟩,a⟩:=x
 obtain⟨rfl,hb,hn,⟨c,hHI⟩,hl,hf,ht,hm⟩:=h
 simp only at hb hn hHI hl hf ht hm
 obtain⟨Sa,Sc,hS,hln⟩:=hb.acc.form
 simp only at hS hln
 subst hS
 have X0:Ext (cut G M) M:=Ext.cut hlo
 have hk:=(pZ hf ht hm)
 have hcl:cur.length=n*n*5:=hHI.len
 have hkl:iS n a<cur.length:=by rw[hcl];unfold iS;omega
 have hok:bC cur (iS n a)= -1\/(0<=bC cur (iS n a)/\bC cur (iS n a)<(arcs.length:Int)):=by
  rcases hHI.cur _ _ (kK hkl) with e|⟨e1,y,e2,_⟩
  ·exact .inl e
  ·have:=(List.getElem?_eq_some_iff.1 e2).1
   simp only at this
   exact .inr ⟨e1,by omega⟩
 have hcond:=(⟨hn,hcl,hf,ht,hm,hok⟩:n<=60/\cur.length=n*n*5/\(0<=a.f/\a.f<(n:Int))/\(0<=a.t/\a.t<(n:Int))/\(0<=a.m/\a.m<5)/\(bC cur (iS n a)= -1\/(0<=bC cur (iS n a)/\bC cur (iS n a)<(arcs.length:Int))))
 have a0:arcs.length<=9223372036854775807:=by omega
 have a1:arcs.length<1073741824:=by omega
 cases hq:fB (dK arcs) (bC cur (iS n a)) a.c with
 |true=>
  obtain⟨S',M',h1,h2,h3,h4,h5,h6⟩:=aAx bB C K G R U D n es ev Sa Sc arcs cur gone rank up down us ds a hM X0 rfl hb hln a0 a1 hcond hq
  refine⟨_,M',h1,_,hA,hlo,h2,h4,S',us,ds,_,h5,h6,?_⟩
  simp [kN,iD,hq]
 |false=>
  obtain⟨M',h1,h2,h3,h4,h5⟩:=aAw bB C K G R U D n es ev Sa Sc arcs cur gone rank up down us ds a hM X0 rfl hb hln a0 a1 hcond hq
  refine⟨_,M',h1,_,hA,hlo,h2,h4,_,us,ds,_,h5,.inl rfl,?_⟩
  simp [kN,iD,hq]
theorem rbv(ab ub uo ul uc j v bB C K G R U D n:Nat)(es:List E4)(ev:Value)(arcs:List A7)(cur:List Int)(gone:List Bool)(rank:List Int)(up down:List (List Int))(us ds:List Value)(x y:A7)(i o:Int)(dr dl di:Value){M:aA}(hb:cM 53 73 42 22 46 ⟨⟨bB,C,K,G,R,U,D⟩,n,es,ev,aD ab 0 arcs.length arcs.length,⟨⟨arcs,cur⟩,gone,rank,up,down⟩,us,ds⟩ M)(harcs0:iU arcs (aD ab 0 arcs.length arcs.length) M)(hxi:rG arcs i=x)(hyo:rG arcs o=y)(hio:(0<=i/\i<(arcs.length:Int))/\(0<=o/\o<(arcs.length:Int))/\0<=(rG arcs i).c+(rG arcs o).c/\(rG arcs i).c+(rG arcs o).c<9223372036854775808)(hok:Lr ⟨⟨bB,C,K,G,R,U,D⟩,n,es,ev,aD ab 0 arcs.length arcs.length,⟨⟨arcs,cur⟩,gone,rank,up,down⟩,us,ds⟩ (vO x y i o))(cc0:(decide ((j:Int)<(ul:Int)))=true)(cc1:(y.t==(v:Int))=true)(hld0:aX Try.prog 3 ⟨ub,uo+((j:Int):Int).toNat*1,none⟩ M=some (i64 o))(hld1:aX Try.prog 3 ⟨ab,0+(o:Int).toNat*7+1,none⟩ M=some (i64 y.t)): ∃T1,Rd Try.prog [] (q58.loopAt 2) Try.f58.ntmps (fr [(0,(pt bB 0)),(1,(i64 (v:Int))),(5,(i64 i)),(16,dr),(17,dl),(18,di),(29,(aD ub uo ul uc)),(30,(i64 (ul:Int))),(31,(i64 (j:Int)))]) M .normal T1 M/\ [0,1,5,16,17,18,29,30,31].map T1.get= [some (pt bB 0),some (i64 (v:Int)),some (i64 i),some dr,some dl,some di,some (aD ub uo ul uc),some (i64 (ul:Int)),some (i64 (IntKind.wrap .i64 ((j:Int)+(1:Int))))]:=by
 have gbB:M.get bB=some ⟨[i64 n,ev,aD R 0 n (n+1),aD ab 0 arcs.length arcs.length,aD U 0 n (n+1),aD D 0 n (n+1),pt C 0,aD G 0 n (n+1)],53,8,0,true⟩:=hb.gB
 exact Rd.told (tb:=[]) (n:=60) (F:=[aM 2,aM 4,aU 6 (i64 o),aU 18 (aD ab 0 arcs.length arcs.length),aM 26,aU 30 (i64 y.t),aO 37,aO 39,aO 41,aO 43,aO 45,aO 47,aO 49,aO 51,aO 53,aO 55,aO 57,aO 60]) aJ aI (aG Try.prog) (fun _ _=>rfl) (by kernel_rfl) (hk (bT cc0) (hk (qI (j:Int) ul (by omega) (by simp at cc0;omega)) (hk (lD (hld0)) (hk (lC (o:=3) lR gbB rfl) (hk (qI o arcs.length hio.2.1.1 hio.2.1.2) (hk (lD (hld1)) (hk (bF (x:=!(y.t==(v:Int))) (by rw[cc1];rfl)) (hk (bF (x:=!(y.t==(v:Int))) (by rw[cc1];rfl)) (hk (bF (x:=!(y.t==(v:Int))) (by rw[cc1];rfl)) (hk (bF (x:=!(y.t==(v:Int))) (by rw[cc1];rfl)) (hk (bF (x:=!(y.t==(v:Int))) (by rw[cc1];rfl)) (hk (bF (x:=!(y.t==(v:Int))) (by rw[cc1];rfl)) (hk (bF (x:=!(y.t==(v:Int))) (by rw[cc1];rfl)) (hk (bF (x:=!(y.t==(v:Int))) (by rw[cc1];rfl)) (hk (bF (x:=!(y.t==(v:Int))) (by rw[cc1];rfl)) (hk (bF (x:=!(y.t==(v:Int))) (by rw[cc1];rfl)) (hk (bF (x:=!(y.t==(v:Int))) (by rw[cc1];rfl)) (hk (bF (x:=!(y.t==(v:Int))) (by rw[cc1];rfl)) hn))))))))))))))))))
theorem rbo(ab ub uo ul uc j v bB C K G R U D n:Nat)(es:List E4)(ev:Value)(arcs:List A7)(cur:List Int)(gone:List Bool)(rank:List Int)(up down:List (List Int))(us ds:List Value)(x y:A7)(i o:Int)(dr dl di:Value){M M0:aA}(hM:aB M)(X0:Ext M0 M)(h0:M0.next=G)(hb:cM 53 73 42 22 46 ⟨⟨bB,C,K,G,R,U,D⟩,n,es,ev,aD ab 0 arcs.length arcs.length,⟨⟨arcs,cur⟩,gone,rank,up,down⟩,us,ds⟩ M)(harcs0:iU arcs (aD ab 0 arcs.length arcs.length) M)(hxi:rG arcs i=x)(hyo:rG arcs o=y)(hio:(0<=i/\i<(arcs.length:Int))/\(0<=o/\o<(arcs.length:Int))/\0<=(rG arcs i).c+(rG arcs o).c/\(rG arcs i).c+(rG arcs o).c<9223372036854775808)(hok:Lr ⟨⟨bB,C,K,G,R,U,D⟩,n,es,ev,aD ab 0 arcs.length arcs.length,⟨⟨arcs,cur⟩,gone,rank,up,down⟩,us,ds⟩ (vO x y i o))(cc0:(decide ((j:Int)<(ul:Int)))=true)(cc1:(y.t==(v:Int))=false)(cc2:(x.m==y.m)=true)(hld0:aX Try.prog 3 ⟨ub,uo+((j:Int):Int).toNat*1,none⟩ M=some (i64 o))(hld1:aX Try.prog 3 ⟨ab,0+(o:Int).toNat*7+1,none⟩ M=some (i64 y.t))(hld2:aX Try.prog 3 ⟨ab,0+(i:Int).toNat*7+2,none⟩ M=some (i64 x.m))(hld3:aX Try.prog 3 ⟨ab,0+(o:Int).toNat*7+2,none⟩ M=some (i64 y.m)): ∃T1 M' S19 u20 d21,Rd Try.prog [] (q58.loopAt 2) Try.f58.ntmps (fr [(0,(pt bB 0)),(1,(i64 (v:Int))),(5,(i64 i)),(16,dr),(17,dl),(18,di),(29,(aD ub uo ul uc)),(30,(i64 (ul:Int))),(31,(i64 (j:Int)))]) M .normal T1 M'/\ [0,1,5,16,17,18,29,30,31].map T1.get= [some (pt bB 0),some (i64 (v:Int)),some (i64 i),some dr,some dl,some di,some (aD ub uo ul uc),some (i64 (ul:Int)),some (i64 (IntKind.wrap .i64 ((j:Int)+(1:Int))))]/\Ext M0 M'/\aB M'/\cM 53 73 42 22 46 ⟨⟨bB,C,K,G,R,U,D⟩,n,es,ev,S19,⟨kN n ⟨arcs,cur⟩ (vO x y i o),gone,rank,up,down⟩,u20,d21⟩ M'/\(∀id b,M.get id=some b-> ¬(id=(⟨bB,C,K,G,R,U,D⟩:BK).a (aD ab 0 arcs.length arcs.length)\/id∈(⟨bB,C,K,G,R,U,D⟩:BK).ids)->M'.get id=some b)/\((⟨bB,C,K,G,R,U,D⟩:BK).a S19=(⟨bB,C,K,G,R,U,D⟩:BK).a (aD ab 0 arcs.length arcs.length)\/(⟨bB,C,K,G,R,U,D⟩:BK).a S19=(⟨bB,C,K,G,R,U,D⟩:BK).B\/M.next<=(⟨bB,C,K,G,R,U,D⟩:BK).a S19)/\M.next<=M'.next:=by
 have gbB:M.get bB=some ⟨[i64 n,ev,aD R 0 n (n+1),aD ab 0 arcs.length arcs.length,aD U 0 n (n+1),aD D 0 n (n+1),pt C 0,aD G 0 n (n+1)],53,8,0,true⟩:=hb.gB
 have gG:M.get G=some ⟨gone.map Value.bool,4,1,0,true⟩:=hb.gG
 have nG:M0.next<=G:=by rw[h0];exact hb.lo G (by simp [BK.ids])
 have hnd:([bB,C,K,G,R,U,D]:List Nat).Nodup:=hb.nd
 obtain⟨dbBC,dbBK,dbBG,dbBR,dbBU,dbBD,dCK,dCG,dCR,dCU,dCD,dKG,dKR,dKU,dKD,dGR,dGU,dGD,dRU,dRD,dUD⟩:=Ze hnd
 have harcs:=harcs0
 obtain⟨w1,N2,M3,p4,l5,e6,E7,b2,F9⟩:=aH (x:=(arcs,i,o)) hM aAj (⟨⟨_,_,_,rfl,harcs,rfl,rfl⟩,hio⟩)
 have b3:=E7.next
 have b1:=E7.old gG
 have b0:w1=(.agg ⟨[i64 x.f,i64 y.t,i64 x.m,i64 (x.c+y.c),i64 (-1),i64 i,i64 o]⟩):=by have h9:w1= .agg ⟨kB (vO (rG arcs i) (rG arcs o) i o)⟩:=F9;rw[hxi,hyo] at h9;exact h9
 subst b0
 have a8:=X0.trans E7
 obtain⟨a7,Zb,a0,a5,a9,a1,b4,a6,a2⟩:=mZ (P:=Try.prog) (o:=ob50) (f:=50) (x:=(⟨⟨bB,C,K,G,R,U,D⟩,n,es,ev,aD ab 0 arcs.length arcs.length,⟨⟨arcs,cur⟩,gone,rank,up,down⟩,us,ds⟩,(vO x y i o))) (l:= [pt bB 0,.agg ⟨[i64 x.f,i64 y.t,i64 x.m,i64 (x.c+y.c),i64 (-1),i64 i,i64 o]⟩]) b2 a8 (nG) (Nat.le_of_lt (aA.lt_of_get b1)) (⟨rfl,hb.old (fun id b h=>(E7.old h)),hok⟩) Uc
 obtain⟨S19,u20,d21,_,a4,a3,rfl⟩:=a2
 have hraw:oR Try.prog [] 60 Try.f58 (q58.loopAt 2) [(0,(pt bB 0)),(1,(i64 (v:Int))),(5,(i64 i)),(16,dr),(17,dl),(18,di),(29,(aD ub uo ul uc)),(30,(i64 (ul:Int))),(31,(i64 (j:Int)))] M [aM 2,aM 4,aU 6 (i64 o),aU 18 (aD ab 0 arcs.length arcs.length),aM 26,aU 30 (i64 y.t),aM 37,aM 39,aM 41,aM 42,aM 43,aM 45,aU 46 (i64 x.m),aM 47,aM 49,aM 51,aM 52,aM 53,aM 55,aU 56 (i64 y.m),aM 57,aM 60,aM 61,bL 71 (.agg ⟨[i64 x.f,i64 y.t,i64 x.m,i64 (x.c+y.c),i64 (-1),i64 i,i64 o]⟩) M3,.at 73 ((bif a7 then 1 else 2),.val Zb,a0)] [0,1,5,16,17,18,29,30,31]=some (.normal,[some (pt bB 0),some (i64 (v:Int)),some (i64 i),some dr,some dl,some di,some (aD ub uo ul uc),some (i64 (ul:Int)),some (i64 (IntKind.wrap .i64 ((j:Int)+(1:Int))))],a0,[qT (decide ((j:Int)<(ul:Int))),.q (.inb (j:Int) ul) (fM true),qL 3 ub (uo+((j:Int):Int).toNat*1) M (i64 o),qL 28 bB 3 M (aD ab 0 arcs.length arcs.length),.q (.inb o arcs.length) (fM true),qL 3 ab (0+(o:Int).toNat*7+1) M (i64 y.t),qT (!(y.t==(v:Int))),qT (!(y.t==(v:Int))),qT (!(y.t==(v:Int))),.q (.inb i arcs.length) (fM true),qT (!(y.t==(v:Int))),qT (!(y.t==(v:Int))),qL 3 ab (0+(i:Int).toNat*7+2) M (i64 x.m),qT (!(y.t==(v:Int))),qT (!(y.t==(v:Int))),qT (!(y.t==(v:Int))),.q (.inb o arcs.length) (fM true),qT (!(y.t==(v:Int))),qT (!(y.t==(v:Int))),qL 3 ab (0+(o:Int).toNat*7+2) M (i64 y.m),qT (!(y.t==(v:Int))),qT (!(y.t==(v:Int))),qT (x.m==y.m),qC 79 [aD ab 0 arcs.length arcs.length,i64 i,i64 o] M (.agg ⟨[i64 x.f,i64 y.t,i64 x.m,i64 (x.c+y.c),i64 (-1),i64 i,i64 o]⟩) M3,.cl 50 [pt bB 0,.agg ⟨[i64 x.f,i64 y.t,i64 x.m,i64 (x.c+y.c),i64 (-1),i64 i,i64 o]⟩] M3 ((bif a7 then 1 else 2),.val Zb,a0)]):=by cases a7<;>kernel_rfl
 obtain⟨T1,h1,h2⟩:=Rd.told aJ aI (fun B=>lO (Rw 50 (TC.ok (Q:=(Rv (ob50))) _) (gF 79 Q79 (gQ _)))) (fun _ _=>rfl) hraw (hk (bT cc0) (hk (eW (by omega) (by simp at cc0;omega)) (hk (iP (hld0)) (hk (lC lR gbB rfl) (hk (eW hio.2.1.1 hio.2.1.2) (hk (iP (hld1)) (hk (bT (by rw[cc1];rfl)) (hk (bT (by rw[cc1];rfl)) (hk (bT (by rw[cc1];rfl)) (hk (eW hio.1.1 hio.1.2) (hk (bT (by rw[cc1];rfl)) (hk (bT (by rw[cc1];rfl)) (hk (iP (hld2)) (hk (bT (by rw[cc1];rfl)) (hk (bT (by rw[cc1];rfl)) (hk (bT (by rw[cc1];rfl)) (hk (eW hio.2.1.1 hio.2.1.2) (hk (bT (by rw[cc1];rfl)) (hk (bT (by rw[cc1];rfl)) (hk (iP (hld3)) (hk (bT (by rw[cc1];rfl)) (hk (bT (by rw[cc1];rfl)) (hk (bT cc2) (hk (aN rfl p4 l5 e6) (hk (a5 _ rfl) hn)))))))))))))))))))))))))
 exact⟨T1,a0,S19,u20,d21,h1,h2,a9,a1,a4,fun id b g h=>a6 id b (E7.old g) h,a3.imp id (Or.imp id (Nat.le_trans (by omega))),by omega⟩
theorem rbm(ab ub uo ul uc j v bB C K G R U D n:Nat)(es:List E4)(ev:Value)(arcs:List A7)(cur:List Int)(gone:List Bool)(rank:List Int)(up down:List (List Int))(us ds:List Value)(x y:A7)(i o:Int)(dr dl di:Value){M:aA}(hb:cM 53 73 42 22 46 ⟨⟨bB,C,K,G,R,U,D⟩,n,es,ev,aD ab 0 arcs.length arcs.length,⟨⟨arcs,cur⟩,gone,rank,up,down⟩,us,ds⟩ M)(harcs0:iU arcs (aD ab 0 arcs.length arcs.length) M)(hxi:rG arcs i=x)(hyo:rG arcs o=y)(hio:(0<=i/\i<(arcs.length:Int))/\(0<=o/\o<(arcs.length:Int))/\0<=(rG arcs i).c+(rG arcs o).c/\(rG arcs i).c+(rG arcs o).c<9223372036854775808)(hok:Lr ⟨⟨bB,C,K,G,R,U,D⟩,n,es,ev,aD ab 0 arcs.length arcs.length,⟨⟨arcs,cur⟩,gone,rank,up,down⟩,us,ds⟩ (vO x y i o))(cc0:(decide ((j:Int)<(ul:Int)))=true)(cc1:(y.t==(v:Int))=false)(cc2:(x.m==y.m)=false)(hld0:aX Try.prog 3 ⟨ub,uo+((j:Int):Int).toNat*1,none⟩ M=some (i64 o))(hld1:aX Try.prog 3 ⟨ab,0+(o:Int).toNat*7+1,none⟩ M=some (i64 y.t))(hld2:aX Try.prog 3 ⟨ab,0+(i:Int).toNat*7+2,none⟩ M=some (i64 x.m))(hld3:aX Try.prog 3 ⟨ab,0+(o:Int).toNat*7+2,none⟩ M=some (i64 y.m)): ∃T1,Rd Try.prog [] (q58.loopAt 2) Try.f58.ntmps (fr [(0,(pt bB 0)),(1,(i64 (v:Int))),(5,(i64 i)),(16,dr),(17,dl),(18,di),(29,(aD ub uo ul uc)),(30,(i64 (ul:Int))),(31,(i64 (j:Int)))]) M .normal T1 M/\ [0,1,5,16,17,18,29,30,31].map T1.get= [some (pt bB 0),some (i64 (v:Int)),some (i64 i),some dr,some dl,some di,some (aD ub uo ul uc),some (i64 (ul:Int)),some (i64 (IntKind.wrap .i64 ((j:Int)+(1:Int))))]:=by
 have gbB:M.get bB=some ⟨[i64 n,ev,aD R 0 n (n+1),aD ab 0 arcs.length arcs.length,aD U 0 n (n+1),aD D 0 n (n+1),pt C 0,aD G 0 n (n+1)],53,8,0,true⟩:=hb.gB
 exact Rd.told (tb:=[]) (n:=60) (F:=[aM 2,aM 4,aU 6 (i64 o),aU 18 (aD ab 0 arcs.length arcs.length),aM 26,aU 30 (i64 y.t),aM 37,aM 39,aM 41,aM 42,aM 43,aM 45,aU 46 (i64 x.m),aM 47,aM 49,aM 51,aM 52,aM 53,aM 55,aU 56 (i64 y.m),aM 57,aM 60,aO 61]) aJ aI (aG Try.prog) (fun _ _=>rfl) (by kernel_rfl) (hk (bT cc0) (hk (qI (j:Int) ul (by omega) (by simp at cc0;omega)) (hk (lD (hld0)) (hk (lC (o:=3) lR gbB rfl) (hk (qI o arcs.length hio.2.1.1 hio.2.1.2) (hk (lD (hld1)) (hk (bT (x:=!(y.t==(v:Int))) (by rw[cc1];rfl)) (hk (bT (x:=!(y.t==(v:Int))) (by rw[cc1];rfl)) (hk (bT (x:=!(y.t==(v:Int))) (by rw[cc1];rfl)) (hk (qI i arcs.length hio.1.1 hio.1.2) (hk (bT (x:=!(y.t==(v:Int))) (by rw[cc1];rfl)) (hk (bT (x:=!(y.t==(v:Int))) (by rw[cc1];rfl)) (hk (lD (hld2)) (hk (bT (x:=!(y.t==(v:Int))) (by rw[cc1];rfl)) (hk (bT (x:=!(y.t==(v:Int))) (by rw[cc1];rfl)) (hk (bT (x:=!(y.t==(v:Int))) (by rw[cc1];rfl)) (hk (qI o arcs.length hio.2.1.1 hio.2.1.2) (hk (bT (x:=!(y.t==(v:Int))) (by rw[cc1];rfl)) (hk (bT (x:=!(y.t==(v:Int))) (by rw[cc1];rfl)) (hk (lD (hld3)) (hk (bT (x:=!(y.t==(v:Int))) (by rw[cc1];rfl)) (hk (bT (x:=!(y.t==(v:Int))) (by rw[cc1];rfl)) (hk (bF cc2) hn)))))))))))))))))))))))
theorem rbx(bB v ul j:Nat)(i:Int)(ua:Option Addr)(uc:Nat)(dr dl di:Value){M:aA}(cc0:(decide ((j:Int)<(ul:Int)))=false): ∃T1,Rd Try.prog [] (q58.loopAt 2) Try.f58.ntmps (fr [(0,(pt bB 0)),(1,(i64 (v:Int))),(5,(i64 i)),(16,dr),(17,dl),(18,di),(29,(.slice ua ul uc)),(30,(i64 (ul:Int))),(31,(i64 (j:Int)))]) M (.exit 2) T1 M/\ [0,1,16,17,18].map T1.get= [some (pt bB 0),some (i64 (v:Int)),some dr,some dl,some di]:=by
 exact Rd.told (tb:=[]) (n:=60) (F:=[aO 2]) aJ aI (aG Try.prog) (fun _ _=>rfl) (by kernel_rfl) (hk (bF cc0) hn)
theorem stepB{bB C K G R U D n:Nat}{es:List E4}{ev S:Value}{sb s0:HB}{gone:List Bool}{rank:List Int}{up down:List (List Int)}{us ds:List Value}{ub uo ul uc j v:Nat}{i o:Int}{dr dl di:Value}{M0 M:aA}(hM:aB M)(X0:Ext M0 M)(h0:M0.next=G)(hb:cM 53 73 42 22 46 ⟨⟨bB,C,K,G,R,U,D⟩,n,es,ev,S,⟨s0,gone,rank,up,down⟩,us,ds⟩ M){c:Int}{kk:Nat}(hsb:HI n c sb)(hBr:Dd n c sb kk s0)(hn60:n<=60)(hc:0<=c/\2*c<9223372036854775808)(hi:0<=i/\i.toNat<sb.arcs.length)(ho:0<=o/\o.toNat<sb.arcs.length)(hlen:sb.arcs.length+kk<536870912)(hj:j<ul)(hld:aX Try.prog 3 ⟨ub,uo+((j:Int):Int).toNat*1,none⟩ M=some (i64 o)):
  ∃T1 M',Rd Try.prog [] (q58.loopAt 2) Try.f58.ntmps (fr [(0,pt bB 0),(1,i64 v),(5,i64 i),(16,dr),(17,dl),(18,di),(29,(aD ub uo ul uc)),(30,i64 ul),(31,i64 j)]) M .normal T1 M'/\ [0,1,5,16,17,18,29,30,31].map T1.get= [some (pt bB 0),some (i64 v),some (i64 i),some dr,some dl,some di,some (aD ub uo ul uc),some (i64 ul),some (i64 (IntKind.wrap .i64 ((j:Int)+(1:Int))))]/\Ext M0 M'/\aB M'/\ ∃S' us' ds',cM 53 73 42 22 46 ⟨⟨bB,C,K,G,R,U,D⟩,n,es,ev,S',⟨yN n v i s0 o,gone,rank,up,down⟩,us',ds'⟩ M'/\(∀id b,M.get id=some b-> ¬(id=(⟨bB,C,K,G,R,U,D⟩:BK).a S\/id∈(⟨bB,C,K,G,R,U,D⟩:BK).ids)->M'.get id=some b)/\((⟨bB,C,K,G,R,U,D⟩:BK).a S'=(⟨bB,C,K,G,R,U,D⟩:BK).a S\/(⟨bB,C,K,G,R,U,D⟩:BK).a S'=(⟨bB,C,K,G,R,U,D⟩:BK).B\/M.next<=(⟨bB,C,K,G,R,U,D⟩:BK).a S')/\M.next<=M'.next:=by
 obtain⟨arcs,cur⟩:=s0
 have t1:=hBr.old _ _ (List.getElem?_eq_getElem hi.2)
 have t2:=hBr.old _ _ (List.getElem?_eq_getElem ho.2)
 obtain⟨p1,p2,p3,p4⟩:=hsb.arc _ (List.getElem_mem hi.2)
 obtain⟨q1,q2,q3,q4⟩:=hsb.arc _ (List.getElem_mem ho.2)
 generalize hx:sb.arcs[i.toNat]=x at t1 p1 p2 p3 p4
 generalize hy:sb.arcs[o.toNat]=y at t2 q1 q2 q3 q4
 simp only at t1 t2
 have li:=(List.getElem?_eq_some_iff.1 t1).1
 have lo:=(List.getElem?_eq_some_iff.1 t2).1
 have a0:=hBr.len
 simp only at a0
 have hxi:=pO t1
 have hyo:=pO t2
 have harcs:iU arcs S M:=hb.acc.rows (by show arcs.length<=_;omega)
 have hform: ∃ab,S=aD ab 0 arcs.length arcs.length:=by
  rcases hb.acc with⟨_,h2⟩|⟨ab,h1,_⟩
  ·simp only at h2;rw[h2] at li;simp at li
  ·exact⟨ab,h1⟩
 obtain⟨ab,rfl⟩:=hform
 have l1:=iL (P:=Try.prog) (ty:=3) (j:=1) (v:=i64 y.t) harcs t2 rfl cO
 have l2:=iL (P:=Try.prog) (ty:=3) (j:=2) (v:=i64 x.m) harcs t1 rfl cO
 have l3:=iL (P:=Try.prog) (ty:=3) (j:=2) (v:=i64 y.m) harcs t2 rfl cO
 have hio:(0<=i/\i<(arcs.length:Int))/\(0<=o/\o<(arcs.length:Int))/\0<=(rG arcs i).c+(rG arcs o).c/\(rG arcs i).c+(rG arcs o).c<9223372036854775808:=by rw[hxi,hyo];exact⟨⟨hi.1,by omega⟩,⟨ho.1,by omega⟩,by omega,by omega⟩
 have hok:Lr ⟨⟨bB,C,K,G,R,U,D⟩,n,es,ev,aD ab 0 arcs.length arcs.length,⟨⟨arcs,cur⟩,gone,rank,up,down⟩,us,ds⟩ (vO x y i o):=⟨hn60,⟨_,hBr.hi⟩,by show arcs.length<_;omega,p1,q2,p3⟩
 have hbr:yN n v i ⟨arcs,cur⟩ o=bif y.t !=(v:Int)&&x.m==y.m then kN n ⟨arcs,cur⟩ (vO x y i o) else⟨arcs,cur⟩:=by unfold yN;simp only [t1,t2]
 cases c1:y.t==(v:Int) with
 |true=>
  obtain⟨T1,h1,h2⟩:=rbv ab ub uo ul uc j v bB C K G R U D n es ev arcs cur gone rank up down us ds x y i o dr dl di (M:=M) hb harcs hxi hyo hio hok (decide_eq_true (by omega)) c1 hld l1
  refine⟨T1,M,h1,h2,X0,hM,_,us,ds,?_,fun _ _ g _=>g,.inl rfl,Nat.le_refl _⟩
  rw[hbr];simp only [bne,c1,Bool.not_true,Bool.false_and,cond_false];exact hb
 |false=>
  cases c2:x.m==y.m with
  |false=>
   obtain⟨T1,h1,h2⟩:=rbm ab ub uo ul uc j v bB C K G R U D n es ev arcs cur gone rank up down us ds x y i o dr dl di (M:=M) hb harcs hxi hyo hio hok (decide_eq_true (by omega)) c1 c2 hld l1 l2 l3
   refine⟨T1,M,h1,h2,X0,hM,_,us,ds,?_,fun _ _ g _=>g,.inl rfl,Nat.le_refl _⟩
   rw[hbr];simp only [bne,c1,c2,Bool.and_false,cond_false];exact hb
  |true=>
   obtain⟨T1,M',S',us',ds',h1,h2,h3,h4,h5,h6⟩:=rbo ab ub uo ul uc j v bB C K G R U D n es ev arcs cur gone rank up down us ds x y i o dr dl di hM X0 h0 hb harcs hxi hyo hio hok (decide_eq_true (by omega)) c1 c2 hld l1 l2 l3
   refine⟨T1,M',h1,h2,h3,h4,S',us',ds',?_,h6⟩
   rw[hbr];simp only [bne,c1,c2,Bool.not_false,Bool.true_and,cond_true];exact h5
theorem Wa{bB C K G R U D n:Nat}{es:List E4}{ev S:Value}{sb s0:HB}{gone:List Bool}{rank:List Int}{up down:List (List Int)}{us ds:List Value}{ul uc v:Nat}{ua:Option Addr}{i:Int}{ups:List Int}{dr dl di:Value}{M0 M:aA}(hM:aB M)(X0:Ext M0 M)(h0:M0.next=G)(hb:cM 53 73 42 22 46 ⟨⟨bB,C,K,G,R,U,D⟩,n,es,ev,S,⟨s0,gone,rank,up,down⟩,us,ds⟩ M){c:Int}{kk:Nat}(hsb:HI n c sb)(hBr:Dd n c sb kk s0)(hn60:n<=60)(hc:0<=c/\2*c<9223372036854775808)(hi:0<=i/\i.toNat<sb.arcs.length)(hups: ∀o∈ups,0<=o/\o.toNat<sb.arcs.length)(hlen:sb.arcs.length+kk+ups.length<536870912)(hul:ups.length=ul)(hu:aP ups (.slice ua ul uc) (bP ((⟨bB,C,K,G,R,U,D⟩:BK).hideS S) M)):
  ∃M',bJ Try.prog [] (q58.loopAt 2) Try.f58.ntmps (fr [(0,pt bB 0),(1,i64 v),(5,i64 i),(16,dr),(17,dl),(18,di),(29,(.slice ua ul uc)),(30,i64 ul),(31,i64 ((0:Nat):Int))]) M (.exit 2) (fr [(0,pt bB 0),(1,i64 v),(16,dr),(17,dl),(18,di)]) M'/\Ext M0 M'/\aB M'/\ ∃S' us' ds',cM 53 73 42 22 46 ⟨⟨bB,C,K,G,R,U,D⟩,n,es,ev,S',⟨Al n v ups s0 i,gone,rank,up,down⟩,us',ds'⟩ M'/\rF (⟨bB,C,K,G,R,U,D⟩:BK) S M S' M':=by
 subst hul
 obtain⟨⟨S',us',ds'⟩,M',h1,h2,h3,h4,h5⟩:=bJ.for (P:=Try.prog) (GL:= []) (b:=q58.loopAt 2) (nt:=Try.f58.ntmps) (id:=2) (σ:=Value×List Value×List Value) (n:=ups.length) (Inv:=fun j σ M1=>Ext M0 M1/\aB M1/\cM 53 73 42 22 46 ⟨⟨bB,C,K,G,R,U,D⟩,n,es,ev,σ.1,⟨(ups.take j).foldl (yN n v i) s0,gone,rank,up,down⟩,σ.2.1,σ.2.2⟩ M1/\rF (⟨bB,C,K,G,R,U,D⟩:BK) S M σ.1 M1)
  (F:=fun j _=> [(0,pt bB 0),(1,i64 v),(5,i64 i),(16,dr),(17,dl),(18,di),(29,(.slice ua ups.length uc)),(30,i64 ups.length),(31,i64 ((j:Nat):Int))])
  (O:=fun _=> [(0,pt bB 0),(1,i64 v),(16,dr),(17,dl),(18,di)])
  (by
   rintro j ⟨S1,a5,a3⟩ M1 hj ⟨X1,a1,a0,hF⟩
   simp only at a0 hF
   have a2:aP ups (.slice ua ups.length uc) M1:=eI (R:=aP) (AP.ext (R:=aP) hF.hids hu)
   obtain⟨ub,uo,rfl,_⟩:=cD a2 (by omega)
   have ht:ups[j]?=some ups[j]:=List.getElem?_eq_getElem hj
   have hld:=iC (P:=Try.prog) (ty:=3) a2 ht rfl cO
   have hBj:Dd n c sb (kk+(ups.take j).length) ((ups.take j).foldl (yN n v i) s0):=hBr.row (v:=v) hsb hi.2 (fun o ho=>(hups o (List.mem_of_mem_take ho)).2)
   obtain⟨T1,M2,h1,h2,h3,h4,S2,a6,a4,h5,h6,h7,h8⟩:=stepB (v:=v) (dr:=dr) (dl:=dl) (di:=di) (uc:=uc) a1 X1 h0 a0 hsb hBj hn60 hc hi (hups _ (List.getElem_mem hj)) (by rw[List.length_take];omega) hj hld
   rw[aY (by omega)] at h2
   refine⟨(S2,a6,a4),T1,M2,h1,h2,h3,h4,?_,hF.step h6 h7 h8⟩
   rw[List.take_succ_eq_append_getElem hj,List.foldl_append]
   exact h5)
  (by
   rintro⟨S1,a5,a3⟩ M1 ⟨X1,a1,a0,hF⟩
   exact rbx bB v ups.length ups.length i ua uc dr dl di (M:=M1) (decide_eq_false (by omega)))
  ups.length 0 (by omega) (s:=(S,us,ds)) (M:=M) ⟨X0,hM,hb,rF.refl _ _ _⟩
 rw[List.take_length] at h4
 exact⟨M',h1,h2,h3,S',us',ds',h4,h5⟩
theorem rdo(eb eo dl dc v k bB C K G R U D n:Nat)(es:List E4)(ev S:Value)(s0:HB)(gone:List Bool)(rank:List Int)(up down:List (List Int))(us ds:List Value)(i:Int)(ua:Option Addr)(ul uc:Nat)(ups:List Int)(sb:HB)(c:Int)(kk:Nat){M M0:aA}(hM:aB M)(X0:Ext M0 M)(h0:M0.next=G)(hb:cM 53 73 42 22 46 ⟨⟨bB,C,K,G,R,U,D⟩,n,es,ev,S,⟨s0,gone,rank,up,down⟩,us,ds⟩ M)(hsb:HI n c sb)(hBr:Dd n c sb kk s0)(hn60:n<=60)(hc:0<=c/\2*c<9223372036854775808)(hi:0<=i/\i.toNat<sb.arcs.length)(hups: ∀o∈ups,0<=o/\o.toNat<sb.arcs.length)(hlen:sb.arcs.length+kk+ups.length<536870912)(hul:ups.length=ul)(hu:aP ups (.slice ua ul uc) (bP ((⟨bB,C,K,G,R,U,D⟩:BK).hideS S) M))(hv:v<n)(hln:ua.isNone=true->ul=0/\uc=0)(cc0:(decide ((k:Int)<(dl:Int)))=true)(hld0:aX Try.prog 3 ⟨eb,eo+((k:Int):Int).toNat*1,none⟩ M=some (i64 i))(hc1:(us)[0+((v:Int):Int).toNat*1]?=some (.slice ua ul uc)): ∃T1 M' S5 u6 d7,Rd Try.prog [] (q58.loopAt 0) Try.f58.ntmps (fr [(0,(pt bB 0)),(1,(i64 (v:Int))),(16,(aD eb eo dl dc)),(17,(i64 (dl:Int))),(18,(i64 (k:Int)))]) M .normal T1 M'/\ [0,1,16,17,18].map T1.get= [some (pt bB 0),some (i64 (v:Int)),some (aD eb eo dl dc),some (i64 (dl:Int)),some (i64 (IntKind.wrap .i64 ((k:Int)+(1:Int))))]/\Ext M0 M'/\aB M'/\cM 53 73 42 22 46 ⟨⟨bB,C,K,G,R,U,D⟩,n,es,ev,S5,⟨Al n v ups s0 i,gone,rank,up,down⟩,u6,d7⟩ M'/\rF (⟨bB,C,K,G,R,U,D⟩:BK) S M S5 M':=by
 have gbB:M.get bB=some ⟨[i64 n,ev,aD R 0 n (n+1),S,aD U 0 n (n+1),aD D 0 n (n+1),pt C 0,aD G 0 n (n+1)],53,8,0,true⟩:=hb.gB
 have gU:M.get U=some ⟨us,22,1,0,true⟩:=hb.gU
 obtain⟨M1,a1,X3,a2,S5,u6,d7,a3,a0⟩:=Wa (v:=v) (i:=i) (ups:=ups) (dr:=(aD eb eo dl dc)) (dl:=(i64 (dl:Int))) (di:=(i64 (k:Int))) hM X0 h0 hb hsb hBr hn60 hc hi hups hlen hul hu
 obtain⟨T1,h1,h2⟩:=Rd.told (tb:=[2]) (n:=60) (F:=[aM 2,aM 4,aU 6 (i64 i),aU 18 (aD U 0 n (n+1)),aM 22,aU 24 (.slice ua ul uc),aM 26,.blk 29 [0,1,5,16,17,18,29,30,31] .normal (fr [(0,(pt bB 0)),(1,(i64 (v:Int))),(16,(aD eb eo dl dc)),(17,(i64 (dl:Int))),(18,(i64 (k:Int)))]) M1]) aJ aI (fun B=>zN (gQ B) 2 a1) (fun _ h=>cF h) (by kernel_rfl) (hk (bT cc0) (hk (qI (k:Int) dl (by omega) (by simp at cc0;omega)) (hk (lD (hld0)) (hk (lC (o:=4) mB gbB rfl) (hk (qI (v:Int) n (by omega) (by omega)) (hq (qL 22 U (0+((v:Int):Int).toNat*1) M (.slice ua ul uc)) (iP (bW (a:=⟨U,0+((v:Int):Int).toNat*1,none⟩) hI gU hc1)) (hk (lN hln) (hq (.blk 2 (.loop (q58.loopAt 2)) Try.f58.ntmps [0,1,5,16,17,18,29,30,31] [some (pt bB 0),some (i64 (v:Int)),some (i64 i),some (aD eb eo dl dc),some (i64 (dl:Int)),some (i64 (k:Int)),some (.slice ua ul uc),some (i64 (ul:Int)),some (i64 0)] M .normal (fr [(0,(pt bB 0)),(1,(i64 (v:Int))),(16,(aD eb eo dl dc)),(17,(i64 (dl:Int))),(18,(i64 (k:Int)))]) M1) (fH rfl) hn))))))))
 exact⟨T1,M1,S5,u6,d7,h1,h2,X3,a2,a3,a0⟩
theorem rdx(bB v dl k:Nat)(da:Option Addr)(dc:Nat){M:aA}(cc0:(decide ((k:Int)<(dl:Int)))=false): ∃T1,Rd Try.prog [] (q58.loopAt 0) Try.f58.ntmps (fr [(0,(pt bB 0)),(1,(i64 (v:Int))),(16,(.slice da dl dc)),(17,(i64 (dl:Int))),(18,(i64 (k:Int)))]) M (.exit 0) T1 M/\ [].map T1.get= []:=by
 exact Rd.told (tb:=[]) (n:=60) (F:=[aO 2]) aJ aI (aG Try.prog) (fun _ _=>rfl) (by kernel_rfl) (hk (bF cc0) hn)
theorem Wb{bB C K G R U D n:Nat}{es:List E4}{ev S:Value}{sb s0:HB}{gone:List Bool}{rank:List Int}{up down:List (List Int)}{us ds:List Value}{v dc:Nat}{da:Option Addr}{ups downs:List Int}{M0 M:aA}(hM:aB M)(X0:Ext M0 M)(h0:M0.next=G)(hb:cM 53 73 42 22 46 ⟨⟨bB,C,K,G,R,U,D⟩,n,es,ev,S,⟨s0,gone,rank,up,down⟩,us,ds⟩ M){c:Int}{kk:Nat}(hsb:HI n c sb)(hBr:Dd n c sb kk s0)(hn60:n<=60)(hc:0<=c/\2*c<9223372036854775808)(hv:v<n)(hup:up[v]?=some ups)(hd: ∀i∈downs,0<=i/\i.toNat<sb.arcs.length)(hups: ∀o∈ups,0<=o/\o.toNat<sb.arcs.length)(hlen:sb.arcs.length+kk+(downs.length+1)*ups.length<536870912)(hdl:downs.length<1000000)(hdn:aP downs (.slice da downs.length dc) (bP ((⟨bB,C,K,G,R,U,D⟩:BK).hideS S) M)):
  ∃M',bJ Try.prog [] (q58.loopAt 0) Try.f58.ntmps (fr [(0,pt bB 0),(1,i64 v),(16,.slice da downs.length dc),(17,i64 downs.length),(18,i64 ((0:Nat):Int))]) M (.exit 0) (fr []) M'/\Ext M0 M'/\aB M'/\ ∃S' us' ds',cM 53 73 42 22 46 ⟨⟨bB,C,K,G,R,U,D⟩,n,es,ev,S',⟨yM n v ups downs s0,gone,rank,up,down⟩,us',ds'⟩ M'/\rF (⟨bB,C,K,G,R,U,D⟩:BK) S M S' M':=by
 obtain⟨⟨S',us',ds'⟩,M',h1,h2,h3,h4,h5⟩:=bJ.for (P:=Try.prog) (GL:= []) (b:=q58.loopAt 0) (nt:=Try.f58.ntmps) (id:=0) (σ:=Value×List Value×List Value) (n:=downs.length) (Inv:=fun j σ M1=>Ext M0 M1/\aB M1/\cM 53 73 42 22 46 ⟨⟨bB,C,K,G,R,U,D⟩,n,es,ev,σ.1,⟨(downs.take j).foldl (Al n v ups) s0,gone,rank,up,down⟩,σ.2.1,σ.2.2⟩ M1/\rF (⟨bB,C,K,G,R,U,D⟩:BK) S M σ.1 M1)
  (F:=fun j _=> [(0,pt bB 0),(1,i64 v),(16,.slice da downs.length dc),(17,i64 downs.length),(18,i64 ((j:Nat):Int))])
  (O:=fun _=> [])
  (by
   rintro j ⟨S1,a6,a2⟩ M1 hj ⟨X1,a3,a0,hF⟩
   simp only at a0 hF
   have a4:aP downs (.slice da downs.length dc) M1:=eI (R:=aP) (AP.ext (R:=aP) hF.hids hdn)
   obtain⟨eb,eo,rfl,_⟩:=cD a4 (by omega)
   have ht:downs[j]?=some downs[j]:=List.getElem?_eq_getElem hj
   have hld:=iC (P:=Try.prog) (ty:=3) a4 ht rfl cO
   have hBj:Dd n c sb (kk+(downs.take j).length*ups.length) ((downs.take j).foldl (Al n v ups) s0):=hBr.all (v:=v) hsb (fun o ho=>(hd o (List.mem_of_mem_take ho)).2) (fun o ho=>(hups o ho).2)
   obtain⟨uv,a8,a1⟩:=a0.up.2 v ups hup
   obtain⟨ua,uc,rfl⟩:=aK.form a1
   have hmul:(downs.take j).length*ups.length<=downs.length*ups.length:=Nat.mul_le_mul_right _ (by rw[List.length_take];omega)
   have a5:(downs.length+1)*ups.length=downs.length*ups.length+ups.length:=Nat.succ_mul _ _
   obtain⟨T1,M2,S2,a9,a7,h1,h2,h3,h4,h5,h6⟩:=rdo eb eo downs.length dc v j bB C K G R U D n es ev S1 _ gone rank up down a6 a2 downs[j] ua ups.length uc ups sb c _ a3 X1 h0 a0 hsb hBj hn60 hc (hd _ (List.getElem_mem hj)) hups (by omega) rfl a1 hv a1.ln (decide_eq_true (by omega)) hld (by rw[Nat.zero_add,Nat.mul_one,Int.toNat_natCast];exact a8)
   rw[aY (by omega)] at h2
   refine⟨(S2,a9,a7),T1,M2,h1,h2,h3,h4,?_,hF.step h6.keep h6.a h6.next⟩
   rw[List.take_succ_eq_append_getElem hj,List.foldl_append]
   exact h5)
  (by
   rintro⟨S1,a6,a2⟩ M1 ⟨X1,a3,a0,hF⟩
   exact rdx bB v downs.length downs.length da dc (M:=M1) (decide_eq_false (by omega)))
  downs.length 0 (by omega) (s:=(S,us,ds)) (M:=M) ⟨X0,hM,hb,rF.refl _ _ _⟩
 rw[List.take_length] at h4
 exact⟨M',h1,h2,h3,S',us',ds',h4,h5⟩
theorem rK58:Try.f58.results= #[]:=by kernel_rfl
theorem hw58(v bB C K G R U D n:Nat)(es:List E4)(ev S:Value)(s0:HB)(gone:List Bool)(rank:List Int)(up down:List (List Int))(us ds:List Value)(da:Option Addr)(dc:Nat)(ups downs:List Int)(sb:HB)(c:Int)(kk:Nat){M M0:aA}(hM:aB M)(X0:Ext M0 M)(h0:M0.next=G)(hb:cM 53 73 42 22 46 ⟨⟨bB,C,K,G,R,U,D⟩,n,es,ev,S,⟨s0,gone,rank,up,down⟩,us,ds⟩ M)(hsb:HI n c sb)(hBr:Dd n c sb kk s0)(hn60:n<=60)(hc:0<=c/\2*c<9223372036854775808)(hv:v<n)(hup:up[v]?=some ups)(hd: ∀i∈downs,0<=i/\i.toNat<sb.arcs.length)(hups: ∀o∈ups,0<=o/\o.toNat<sb.arcs.length)(hlen:sb.arcs.length+kk+(downs.length+1)*ups.length<536870912)(hdl:downs.length<1000000)(hdn:aP downs (.slice da downs.length dc) (bP ((⟨bB,C,K,G,R,U,D⟩:BK).hideS S) M))(hln:da.isNone=true->downs.length=0/\dc=0)(hc0:(ds)[0+((v:Int):Int).toNat*1]?=some (.slice da downs.length dc)): ∃M',Ev Try.prog [] 58 [pt bB 0,i64 v] M (.tuple #[]) M'/\Ext M0 M'/\aB M'/\ ∃S' us' ds',cM 53 73 42 22 46 ⟨⟨bB,C,K,G,R,U,D⟩,n,es,ev,S',⟨yM n v ups downs s0,gone,rank,up,down⟩,us',ds'⟩ M'/\rF (⟨bB,C,K,G,R,U,D⟩:BK) S M S' M':=by
 have gbB:M.get bB=some ⟨[i64 n,ev,aD R 0 n (n+1),S,aD U 0 n (n+1),aD D 0 n (n+1),pt C 0,aD G 0 n (n+1)],53,8,0,true⟩:=hb.gB
 have gD:M.get D=some ⟨ds,22,1,0,true⟩:=hb.gD
 obtain⟨M1,a1,X3,a2,S5,u6,d7,a3,a0⟩:=Wb (v:=v) hM X0 h0 hb hsb hBr hn60 hc hv hup hd hups hlen hdl hdn
 have hraw:oU Try.prog [0] 60 Try.f58 q58 [pt bB 0,i64 v] M [aU 9 (aD D 0 n (n+1)),aM 13,aU 15 (.slice da downs.length dc),aM 17,.blk 20 [0,1,16,17,18] .normal (fr []) M1]=some (.normal,M1,[qL 29 bB 5 M (aD D 0 n (n+1)),.q (.inb (v:Int) n) (fM true),qL 22 D (0+((v:Int):Int).toNat*1) M (.slice da downs.length dc),.ln da downs.length dc,.blk 0 (.loop (q58.loopAt 0)) Try.f58.ntmps [0,1,16,17,18] [some (pt bB 0),some (i64 (v:Int)),some (.slice da downs.length dc),some (i64 (downs.length:Int)),some (i64 0)] M .normal (fr []) M1]):=by kernel_rfl
 exact⟨M1,Ev.told_none aJ aI Try.func58 Xt (by kernel_rfl) rK58 (fun B=>zN (gQ B) 0 a1) (fun _ h=>cF h) hraw (.inr rfl) (hk (lC mB gbB rfl) (hk (eW (by omega) (by omega)) (hk (iP (bW (a:=⟨D,0+((v:Int):Int).toNat*1,none⟩) hI gD hc0)) (hk (lN hln) (hk (fH rfl) hn))))),X3,a2,S5,u6,d7,a3,a0⟩
instance:On (fun v:Nat=> [i64 v]):=⟨fun{x y} h=>by simp only [i64,List.cons.injEq,Value.int.injEq,true_and,and_true] at h;omega⟩
def Wq(x:tJ)(v:Nat):Prop:=x.n<=60/\v<x.n/\(∃c,HI x.n c x.s.b/\0<=c/\2*c<9223372036854775808)/\x.s.b.arcs.length<300000000/\ ∃ups downs,x.s.up[v]?=some ups/\x.s.down[v]?=some downs/\ups.length<=300/\downs.length<=300/\(∀i∈downs,0<=i/\i.toNat<x.s.b.arcs.length)/\(∀o∈ups,0<=o/\o.toNat<x.s.b.arcs.length)
abbrev ob58:OB (tJ×Nat):=Zf 53 73 42 22 46 (fun v:Nat=> [i64 ((v:Nat):Int)]) Wq (fun x v _ s=>s={x.s with b:=yM x.n v ((x.s.up[v]?).getD []) ((x.s.down[v]?).getD []) x.s.b})
theorem aAe{x:tJ×Nat}{lv:List Value}{M:aA}(hM:aB M)(h:ob58.A x lv M)(hlo:ob58.lo x<=M.next): ∃v M',TO Try.prog 58 ob58 lv M v M':=by
 have hA:=h
 obtain⟨⟨⟨bB,C,K,G,R,U,D⟩,n,es,ev,S,⟨s0,gone,rank,up,down⟩,us,ds⟩,v⟩:=x
 obtain⟨rfl,hb,hn,hv,⟨c,hHI,a1,a2⟩,hl,ups,downs,hup,hdn,l1,l2,q1,q2⟩:=h
 simp only at hb hn hv hHI hl hup hdn q1 q2
 have X0:Ext (cut G M) M:=Ext.cut hlo
 obtain⟨dv,a3,a0⟩:=hb.down.2 v downs hdn
 obtain⟨da,dc,rfl⟩:=aK.form a0
 have hmul:(downs.length+1)*ups.length<=301*300:=Nat.mul_le_mul (by omega) l1
 obtain⟨M',h1,h2,h3,S',us',ds',h4,h5⟩:=hw58 v bB C K G R U D n es ev S s0 gone rank up down us ds da dc ups downs s0 c 0 hM X0 rfl hb hHI (Dd.zero a1 hHI) hn ⟨a1,a2⟩ hv hup q1 q2 (by omega) (by omega) a0 a0.ln (by rw[Nat.zero_add,Nat.mul_one,Int.toNat_natCast];exact a3)
 refine⟨_,M',h1,_,hA,hlo,h2,h5.keep,S',us',ds',_,h4,h5.a,?_⟩
 simp only [hup,hdn,Option.getD_some]
end Go.Proofs.Ytdaglldahidmbaa
