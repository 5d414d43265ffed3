/-
  Package hier: each of its laws for every argument; no conditions. The last text states which.
-/
import Derived.Test.YtdaglldahidmbaaGAHR0
import Derived.Test.YtdaglldahidmbaaGAmTn
set_option linter.unusedVariables false
set_option linter.unusedSimpArgs false
open Go Go.Am Go.Proofs
namespace Go.Proofs.Ytdaglldahidmbaa
set_option maxRecDepth 100000
theorem rK50:Try.f50.results= #[]:=by kernel_rfl
theorem hw50t(bB C K G R U D n:Nat)(es:List E4)(ev:Value)(Sa:Option Addr)(Sc:Nat)(arcs:List A7)(cur:List Int)(gone:List Bool)(rank:List Int)(up down:List (List Int))(us ds:List Value)(a:A7){M M0:Mem}(hM:MemOk M)(X0:Ext M0 M)(h0:M0.next=G)(hb:PBld 53 73 42 22 46 ⟨⟨bB,C,K,G,R,U,D⟩,n,es,ev,.slice Sa arcs.length Sc,⟨⟨arcs,cur⟩,gone,rank,up,down⟩,us,ds⟩ M)(hln:Sa.isNone=true→arcs.length=0∧Sc=0)(hal:arcs.length≤9223372036854775807)(hal30:arcs.length<1073741824)(hcond:n≤60∧cur.length=n*n*5∧(0≤a.f∧a.f<(n:Int))∧(0≤a.t∧a.t<(n:Int))∧(0≤a.m∧a.m<5)∧(curAt cur (atP n a)= -1∨(0≤curAt cur (atP n a)∧curAt cur (atP n a)<(arcs.length:Int))))(cc0:((isLow (costA arcs) (curAt cur (atP n a)) a.c))=true): ∃S53 M',Ev Try.prog [] 50 [pt bB 0,.agg ⟨[i64 a.f,i64 a.t,i64 a.m,i64 a.c,i64 a.e,i64 a.a,i64 a.b]⟩] M (.tuple #[]) M'∧Ext M0 M'∧MemOk M'∧(∀id k,M.get id=some k→ ¬(id=(⟨bB,C,K,G,R,U,D⟩:BK).a (.slice Sa arcs.length Sc)∨id∈ [bB,C,K,G,R,U,D])→M'.get id=some k)∧PBld 53 73 42 22 46 ⟨⟨bB,C,K,G,R,U,D⟩,n,es,ev,S53,⟨⟨(arcs++ [a]),lowCur costA (⟨C,K,bB,n,cur,arcs,a,(arcs.length:Int)⟩:LX (List A7))⟩,gone,rank,up,down⟩,us,ds⟩ M'∧((⟨bB,C,K,G,R,U,D⟩:BK).a S53=(⟨bB,C,K,G,R,U,D⟩:BK).a (.slice Sa arcs.length Sc)∨(⟨bB,C,K,G,R,U,D⟩:BK).a S53=bB∨M.next≤(⟨bB,C,K,G,R,U,D⟩:BK).a S53):=by
 have gbB:M.get bB=some ⟨[i64 n,ev,sli R 0 n (n+1),.slice Sa arcs.length Sc,sli U 0 n (n+1),sli D 0 n (n+1),pt C 0,sli G 0 n (n+1)],53,8,0,true⟩:=hb.gB
 have gC:M.get C=some ⟨[i64 n,sli K 0 (n*n*5) (n*n*5+1),.func (.func 46) ⟨[pt bB 0]⟩ ⟨[]⟩],73,3,0,true⟩:=hb.gC
 have gK:M.get K=some ⟨cur.map i64,3,1,0,true⟩:=hb.gK
 have gG:M.get G=some ⟨gone.map Value.bool,4,1,0,true⟩:=hb.gG
 have gR:M.get R=some ⟨rank.map i64,3,1,0,true⟩:=hb.gR
 have gU:M.get U=some ⟨us,22,1,0,true⟩:=hb.gU
 have gD:M.get D=some ⟨ds,22,1,0,true⟩:=hb.gD
 have nbB:M0.next≤bB:=by rw[h0];exact hb.lo bB (by simp [BK.ids])
 have nC:M0.next≤C:=by rw[h0];exact hb.lo C (by simp [BK.ids])
 have nK:M0.next≤K:=by rw[h0];exact hb.lo K (by simp [BK.ids])
 have nG:M0.next≤G:=by rw[h0];exact hb.lo G (by simp [BK.ids])
 have nR:M0.next≤R:=by rw[h0];exact hb.lo R (by simp [BK.ids])
 have nU:M0.next≤U:=by rw[h0];exact hb.lo U (by simp [BK.ids])
 have nD:M0.next≤D:=by rw[h0];exact hb.lo D (by simp [BK.ids])
 have hnd:([bB,C,K,G,R,U,D]:List Nat).Nodup:=hb.nd
 obtain⟨dbBC,dbBK,dbBG,dbBR,dbBU,dbBD,dCK,dCG,dCR,dCU,dCD,dKG,dKR,dKU,dKD,dGR,dGU,dGD,dRU,dRD,dUD⟩:=nd7 hnd
 have hA0:AccC 42 7 M0 [bB,C,K,G,R,U,D] arcs.length ((arcs.map aRow).flatten) (.slice Sa arcs.length Sc) M:=hb.acc.acc (Nat.le_of_eq h0)
 obtain⟨b1,M2,eb3,em4,g5,E6,hM7⟩:=new_t hM ⟨[i64 a.f,i64 a.t,i64 a.m,i64 a.c,i64 a.e,i64 a.a,i64 a.b],42,7,0,true⟩
 have nb1:M0.next≤b1:=by rw[←eb3];exact X0.next
 have dbBb1:bB≠b1:=by have:=Mem.lt_of_get gbB;omega
 have dCb1:C≠b1:=by have:=Mem.lt_of_get gC;omega
 have dKb1:K≠b1:=by have:=Mem.lt_of_get gK;omega
 have dGb1:G≠b1:=by have:=Mem.lt_of_get gG;omega
 have dRb1:R≠b1:=by have:=Mem.lt_of_get gR;omega
 have dUb1:U≠b1:=by have:=Mem.lt_of_get gU;omega
 have dDb1:D≠b1:=by have:=Mem.lt_of_get gD;omega
 have A8:=hA0.new eb3 E6
 have g9:=E6.old gbB
 have g10:=E6.old gC
 have g11:=E6.old gK
 have g12:=E6.old gG
 have g13:=E6.old gR
 have g14:=E6.old gU
 have g15:=E6.old gD
 have nx16:=E6.next
 have X17:=X0.trans E6
 obtain⟨t18,w19,M20,hc21,X22,hM23,nx24,kp25,hR26⟩:=call_ob (P:=Try.prog) (o:=obL 73 46 costA (pBA 53) (fun y i=>0≤i∧i<(y.length:Int))) (f:=48) (x:=⟨C,K,bB,n,cur,arcs,a,(arcs.length:Int)⟩) (l:= [pt C 0,.agg ⟨[i64 a.f,i64 a.t,i64 a.m,i64 a.c,i64 a.e,i64 a.a,i64 a.b]⟩,i64 ((arcs.length:Int))]) hM7 X17 (nK) (Nat.le_of_lt (Mem.lt_of_get g11)) (⟨rfl,g10,g11,⟨bB,i64 n,ev,sli R 0 n (n+1),.slice Sa arcs.length Sc,sli U 0 n (n+1),sli D 0 n (n+1),pt C 0,sli G 0 n (n+1),rfl,hidx_get.2 ⟨hid_one dbBK,g9⟩,arcs_hid A8 (by simp) hal⟩,dCK,hcond⟩) con48A
 have g27:=kp25 _ _ g9 (fun e=>dbBK e)
 have g28:=kp25 _ _ g10 (fun e=>dCK e)
 have g29:=kp25 _ _ g12 (fun e=>dKG e.symm)
 have g30:=kp25 _ _ g13 (fun e=>dKR e.symm)
 have g31:=kp25 _ _ g14 (fun e=>dKU e.symm)
 have g32:=kp25 _ _ g15 (fun e=>dKD e.symm)
 have g33:=kp25 _ _ g5 (fun e=>dKb1 e.symm)
 obtain⟨ew19,gK2x⟩:=hR26
 have gK2:M20.get K=some ⟨(lowCur costA (⟨C,K,bB,n,cur,arcs,a,(arcs.length:Int)⟩:LX (List A7))).map i64,3,1,0,true⟩:=gK2x
 subst ew19
 have hA2:=A8.turn (x:=K) (by simp) kp25
 obtain⟨b34,M35,eb36,em37,g38,E39,hM40⟩:=new_t hM23 ⟨[i64 a.f,i64 a.t,i64 a.m,i64 a.c,i64 a.e,i64 a.a,i64 a.b],42,7,0,true⟩
 have nb34:M0.next≤b34:=by rw[←eb36];exact X22.next
 have dbBb34:bB≠b34:=by have:=Mem.lt_of_get g27;omega
 have dCb34:C≠b34:=by have:=Mem.lt_of_get g28;omega
 have dKb34:K≠b34:=by have:=Mem.lt_of_get gK2;omega
 have dGb34:G≠b34:=by have:=Mem.lt_of_get g29;omega
 have dRb34:R≠b34:=by have:=Mem.lt_of_get g30;omega
 have dUb34:U≠b34:=by have:=Mem.lt_of_get g31;omega
 have dDb34:D≠b34:=by have:=Mem.lt_of_get g32;omega
 have db1b34:b1≠b34:=by have:=Mem.lt_of_get g33;omega
 have A41:=hA2.new eb36 E39
 have g42:=E39.old g27
 have g43:=E39.old g28
 have g44:=E39.old gK2
 have g45:=E39.old g29
 have g46:=E39.old g30
 have g47:=E39.old g31
 have g48:=E39.old g32
 have g49:=E39.old g33
 have nx50:=E39.next
 have X51:=X22.trans E39
 obtain⟨t52,S53,M54,q55,X56,hM57,A58,kb59,ka60,fr70⟩:=accc_append2 (P:=Try.prog) (sT:=28) (xT:=28) (y:=56) (c:=2) A41 X51 hM40 (by intro x hx;simp only [List.mem_cons,List.not_mem_nil,or_false] at hx;rcases hx with rfl|rfl|rfl|rfl|rfl|rfl|rfl|rfl|rfl<;>first|exact Mem.lt_of_get g38|exact Mem.lt_of_get g49|exact Mem.lt_of_get g42|exact Mem.lt_of_get g43|exact Mem.lt_of_get g44|exact Mem.lt_of_get g45|exact Mem.lt_of_get g46|exact Mem.lt_of_get g47|exact Mem.lt_of_get g48) (by kernel_rfl) (by kernel_rfl) (by kernel_rfl) (by kernel_rfl) (by decide) (by decide) rfl hal30 g38 (o:=0) (new:= [i64 a.f,i64 a.t,i64 a.m,i64 a.c,i64 a.e,i64 a.a,i64 a.b]) rfl rfl rfl
 have g61:=kb59 _ _ g42 (by simp)
 have g62:=kb59 _ _ g43 (by simp)
 have g63:=kb59 _ _ g44 (by simp)
 have g64:=kb59 _ _ g45 (by simp)
 have g65:=kb59 _ _ g46 (by simp)
 have g66:=kb59 _ _ g47 (by simp)
 have g67:=kb59 _ _ g48 (by simp)
 obtain⟨M71,q72,g73,kp74,X75,hM76,nx77⟩:=store_t (o:=3) (v:=S53) (new:= [i64 ((n:Int)),ev,sli R 0 n (n+1),S53,sli U 0 n (n+1),sli D 0 n (n+1),pt C 0,sli G 0 n (n+1)]) X56 nbB hM57 dS28 g61 (by rw[cells_cell A58.isCell];rfl) (by rw[cells_cell A58.isCell];show(isCell _&&true)=true;rw[A58.isCell];rfl) (Nat.zero_le _) (Nat.le_of_ble_eq_true rfl) (by rw[cells_cell A58.isCell];rfl)
 replace g73:M71.get bB=some ⟨[i64 ((n:Int)),ev,sli R 0 n (n+1),S53,sli U 0 n (n+1),sli D 0 n (n+1),pt C 0,sli G 0 n (n+1)],53,8,0,true⟩:=g73
 have A78:=A58.keep (by simp) (fun id h _=>kp74 id h)
 have g79:=(kp74 _ (Ne.symm dbBC)).trans g62
 have g80:=(kp74 _ (Ne.symm dbBK)).trans g63
 have g81:=(kp74 _ (Ne.symm dbBG)).trans g64
 have g82:=(kp74 _ (Ne.symm dbBR)).trans g65
 have g83:=(kp74 _ (Ne.symm dbBU)).trans g66
 have g84:=(kp74 _ (Ne.symm dbBD)).trans g67
 have hraw:oU Try.prog [] 60 Try.f50 q50 [pt bB 0,.agg ⟨[i64 a.f,i64 a.t,i64 a.m,i64 a.c,i64 a.e,i64 a.a,i64 a.b]⟩] M [ttV 1 (pt b1 0) M2,ttL 9 (pt C 0),ttL 11 (.agg ⟨[i64 a.f,i64 a.t,i64 a.m,i64 a.c,i64 a.e,i64 a.a,i64 a.b]⟩),ttL 21 (.slice Sa arcs.length Sc),ttT 23,.at 25 ((bif t18 then 1 else 2),.val (.bool ((isLow (costA arcs) (curAt cur (atP n a)) a.c))),M20),ttT 26,ttL 38 (.slice Sa arcs.length Sc),ttL 40 (.agg ⟨[i64 a.f,i64 a.t,i64 a.m,i64 a.c,i64 a.e,i64 a.a,i64 a.b]⟩),ttV 42 (sli b34 0 1 2) M35,.at 44 ((bif t52 then 1 else 2),.val S53,M54),ttS 52 M71]=some (.normal,M71,[.eq (abox Try.prog 42 (.agg ⟨[i64 a.f,i64 a.t,i64 a.m,i64 a.c,i64 a.e,i64 a.a,i64 a.b]⟩) M) (1,.val (pt b1 0),M2),qL 51 bB 6 M2 (pt C 0),qL 42 b1 0 M2 (.agg ⟨[i64 a.f,i64 a.t,i64 a.m,i64 a.c,i64 a.e,i64 a.a,i64 a.b]⟩),qL 28 bB 3 M2 (.slice Sa arcs.length Sc),.ln Sa arcs.length Sc,.cl 48 [pt C 0,.agg ⟨[i64 a.f,i64 a.t,i64 a.m,i64 a.c,i64 a.e,i64 a.a,i64 a.b]⟩,i64 ((arcs.length:Int))] M2 ((bif t18 then 1 else 2),.val (.bool ((isLow (costA arcs) (curAt cur (atP n a)) a.c))),M20),qT ((isLow (costA arcs) (curAt cur (atP n a)) a.c)),qL 28 bB 3 M20 (.slice Sa arcs.length Sc),qL 42 b1 0 M20 (.agg ⟨[i64 a.f,i64 a.t,i64 a.m,i64 a.c,i64 a.e,i64 a.a,i64 a.b]⟩),.eq (abuildSlice Try.prog 28 1 [(0,(.agg ⟨[i64 a.f,i64 a.t,i64 a.m,i64 a.c,i64 a.e,i64 a.a,i64 a.b]⟩))] M20) (1,.val (sli b34 0 1 2),M35),.q (.append [28,28] (.slice Sa arcs.length Sc) (sli b34 0 1 2) M35) ((bif t52 then 1 else 2),.val S53,M54),qS 28 bB 3 S53 M54 M71]):=by cases t52<;>kernel_rfl
 have hkp: ∀id k,M.get id=some k→ ¬(id=(⟨bB,C,K,G,R,U,D⟩:BK).a (.slice Sa arcs.length Sc)∨id∈ [bB,C,K,G,R,U,D])→M71.get id=some k:=fun id k g hown=>by
  have hS0:=BK.a_ne (k:=⟨bB,C,K,G,R,U,D⟩) (S:=(.slice Sa arcs.length Sc)) (id:=id) (fun e=>hown (.inl e))
  have hi0:id∉ [bB,C,K,G,R,U,D]:=fun e=>hown (.inr e)
  simp only [List.mem_cons,List.not_mem_nil,or_false,not_or] at hi0
  obtain⟨h_bB,h_C,h_K,h_G,h_R,h_U,h_D⟩:=hi0
  have g:=E6.old g
  have g:=kp25 id k g (h_K)
  have g:=E39.old g
  have g:=ka60 id k g hS0
  have g:=((fun id h _=>kp74 id h) id h_bB (Mem.lt_of_get g)).trans g
  exact g
 refine⟨S53,M71,Ev.told_none noNumP mixedP Try.func50 q50_ok (by kernel_rfl) rK50 (fun B=>sb0 (sbC 48 (TC.ok (Q:=(QOb (obL 73 46 costA (pBA 53) (fun y i=>0≤i∧i<(y.length:Int))))) _) (sbN _))) (fun _ _=>rfl) hraw (.inr rfl) (hk (q_eq (by rw[←eb3,←em4];kernel_rfl) Nat.one_ne_zero) (hk (lC dC51 g9 rfl) (hk (lA ⟨dA42,dS42⟩ g5 rfl) (hk (lC dC28 g9 rfl) (hk (lN hln) (hk (hc21 _ rfl) (hk (bT cc0) (hk (lC dC28 g27 rfl) (hk (lA ⟨dA42,dS42⟩ g33 rfl) (hk (q_eq (by rw[←eb36,←em37];kernel_rfl) Nat.one_ne_zero) (hk (q_app q55 (by cases t52<;>simp)) (hk (q_st q72) hn)))))))))))),X75,hM76,hkp,?_,.inr (.inr (Nat.le_trans (by omega) (fr70 ⟨bB,C,K,G,R,U,D⟩)))⟩
 exact PBld.next (x:=⟨⟨bB,C,K,G,R,U,D⟩,n,es,ev,.slice Sa arcs.length Sc,⟨⟨arcs,cur⟩,gone,rank,up,down⟩,us,ds⟩) (s:=⟨⟨(arcs++ [a]),lowCur costA (⟨C,K,bB,n,cur,arcs,a,(arcs.length:Int)⟩:LX (List A7))⟩,gone,rank,up,down⟩) hb hkp (.inr (.inr (Nat.le_trans (by omega) (fr70 ⟨bB,C,K,G,R,U,D⟩)))) g73 g79 g80 g81 g82 g83 g84 (ArcsAt.of_acc (arcs:=arcs++ [a]) (A78.less (fun x hx=>List.mem_cons_of_mem _ (List.mem_cons_of_mem _ (hx)))) (by simp) (by simp [aRow]) (Nat.le_of_eq h0.symm)) (hb.up.ext (hids_keep (x:=⟨⟨bB,C,K,G,R,U,D⟩,n,es,ev,.slice Sa arcs.length Sc,⟨⟨arcs,cur⟩,gone,rank,up,down⟩,us,ds⟩) hkp (.inr (.inr (Nat.le_trans (by omega) (fr70 ⟨bB,C,K,G,R,U,D⟩)))))) (hb.down.ext (hids_keep (x:=⟨⟨bB,C,K,G,R,U,D⟩,n,es,ev,.slice Sa arcs.length Sc,⟨⟨arcs,cur⟩,gone,rank,up,down⟩,us,ds⟩) hkp (.inr (.inr (Nat.le_trans (by omega) (fr70 ⟨bB,C,K,G,R,U,D⟩))))))
theorem hw50f(bB C K G R U D n:Nat)(es:List E4)(ev:Value)(Sa:Option Addr)(Sc:Nat)(arcs:List A7)(cur:List Int)(gone:List Bool)(rank:List Int)(up down:List (List Int))(us ds:List Value)(a:A7){M M0:Mem}(hM:MemOk M)(X0:Ext M0 M)(h0:M0.next=G)(hb:PBld 53 73 42 22 46 ⟨⟨bB,C,K,G,R,U,D⟩,n,es,ev,.slice Sa arcs.length Sc,⟨⟨arcs,cur⟩,gone,rank,up,down⟩,us,ds⟩ M)(hln:Sa.isNone=true→arcs.length=0∧Sc=0)(hal:arcs.length≤9223372036854775807)(hal30:arcs.length<1073741824)(hcond:n≤60∧cur.length=n*n*5∧(0≤a.f∧a.f<(n:Int))∧(0≤a.t∧a.t<(n:Int))∧(0≤a.m∧a.m<5)∧(curAt cur (atP n a)= -1∨(0≤curAt cur (atP n a)∧curAt cur (atP n a)<(arcs.length:Int))))(cc0:((isLow (costA arcs) (curAt cur (atP n a)) a.c))=false): ∃M',Ev Try.prog [] 50 [pt bB 0,.agg ⟨[i64 a.f,i64 a.t,i64 a.m,i64 a.c,i64 a.e,i64 a.a,i64 a.b]⟩] M (.tuple #[]) M'∧Ext M0 M'∧MemOk M'∧(∀id k,M.get id=some k→ ¬(id=(⟨bB,C,K,G,R,U,D⟩:BK).a (.slice Sa arcs.length Sc)∨id∈ [bB,C,K,G,R,U,D])→M'.get id=some k)∧PBld 53 73 42 22 46 ⟨⟨bB,C,K,G,R,U,D⟩,n,es,ev,.slice Sa arcs.length Sc,⟨⟨arcs,lowCur costA (⟨C,K,bB,n,cur,arcs,a,(arcs.length:Int)⟩:LX (List A7))⟩,gone,rank,up,down⟩,us,ds⟩ M':=by
 have gbB:M.get bB=some ⟨[i64 n,ev,sli R 0 n (n+1),.slice Sa arcs.length Sc,sli U 0 n (n+1),sli D 0 n (n+1),pt C 0,sli G 0 n (n+1)],53,8,0,true⟩:=hb.gB
 have gC:M.get C=some ⟨[i64 n,sli K 0 (n*n*5) (n*n*5+1),.func (.func 46) ⟨[pt bB 0]⟩ ⟨[]⟩],73,3,0,true⟩:=hb.gC
 have gK:M.get K=some ⟨cur.map i64,3,1,0,true⟩:=hb.gK
 have gG:M.get G=some ⟨gone.map Value.bool,4,1,0,true⟩:=hb.gG
 have gR:M.get R=some ⟨rank.map i64,3,1,0,true⟩:=hb.gR
 have gU:M.get U=some ⟨us,22,1,0,true⟩:=hb.gU
 have gD:M.get D=some ⟨ds,22,1,0,true⟩:=hb.gD
 have nK:M0.next≤K:=by rw[h0];exact hb.lo K (by simp [BK.ids])
 have hnd:([bB,C,K,G,R,U,D]:List Nat).Nodup:=hb.nd
 obtain⟨dbBC,dbBK,dbBG,dbBR,dbBU,dbBD,dCK,dCG,dCR,dCU,dCD,dKG,dKR,dKU,dKD,dGR,dGU,dGD,dRU,dRD,dUD⟩:=nd7 hnd
 have hA0:AccC 42 7 M0 [bB,C,K,G,R,U,D] arcs.length ((arcs.map aRow).flatten) (.slice Sa arcs.length Sc) M:=hb.acc.acc (Nat.le_of_eq h0)
 obtain⟨b1,M2,eb3,em4,g5,E6,hM7⟩:=new_t hM ⟨[i64 a.f,i64 a.t,i64 a.m,i64 a.c,i64 a.e,i64 a.a,i64 a.b],42,7,0,true⟩
 have A8:=hA0.new eb3 E6
 have g9:=E6.old gbB
 have g10:=E6.old gC
 have g11:=E6.old gK
 have g12:=E6.old gG
 have g13:=E6.old gR
 have g14:=E6.old gU
 have g15:=E6.old gD
 have X17:=X0.trans E6
 obtain⟨t18,w19,M20,hc21,X22,hM23,nx24,kp25,hR26⟩:=call_ob (P:=Try.prog) (o:=obL 73 46 costA (pBA 53) (fun y i=>0≤i∧i<(y.length:Int))) (f:=48) (x:=⟨C,K,bB,n,cur,arcs,a,(arcs.length:Int)⟩) (l:= [pt C 0,.agg ⟨[i64 a.f,i64 a.t,i64 a.m,i64 a.c,i64 a.e,i64 a.a,i64 a.b]⟩,i64 ((arcs.length:Int))]) hM7 X17 (nK) (Nat.le_of_lt (Mem.lt_of_get g11)) (⟨rfl,g10,g11,⟨bB,i64 n,ev,sli R 0 n (n+1),.slice Sa arcs.length Sc,sli U 0 n (n+1),sli D 0 n (n+1),pt C 0,sli G 0 n (n+1),rfl,hidx_get.2 ⟨hid_one dbBK,g9⟩,arcs_hid A8 (by simp) hal⟩,dCK,hcond⟩) con48A
 have g27:=kp25 _ _ g9 (fun e=>dbBK e)
 have g28:=kp25 _ _ g10 (fun e=>dCK e)
 have g29:=kp25 _ _ g12 (fun e=>dKG e.symm)
 have g30:=kp25 _ _ g13 (fun e=>dKR e.symm)
 have g31:=kp25 _ _ g14 (fun e=>dKU e.symm)
 have g32:=kp25 _ _ g15 (fun e=>dKD e.symm)
 obtain⟨ew19,gK2x⟩:=hR26
 have gK2:M20.get K=some ⟨(lowCur costA (⟨C,K,bB,n,cur,arcs,a,(arcs.length:Int)⟩:LX (List A7))).map i64,3,1,0,true⟩:=gK2x
 subst ew19
 have hA2:=A8.turn (x:=K) (by simp) kp25
 have hraw:oU Try.prog [] 60 Try.f50 q50 [pt bB 0,.agg ⟨[i64 a.f,i64 a.t,i64 a.m,i64 a.c,i64 a.e,i64 a.a,i64 a.b]⟩] M [ttV 1 (pt b1 0) M2,ttL 9 (pt C 0),ttL 11 (.agg ⟨[i64 a.f,i64 a.t,i64 a.m,i64 a.c,i64 a.e,i64 a.a,i64 a.b]⟩),ttL 21 (.slice Sa arcs.length Sc),ttT 23,.at 25 ((bif t18 then 1 else 2),.val (.bool ((isLow (costA arcs) (curAt cur (atP n a)) a.c))),M20),ttF 26]=some (.normal,M20,[.eq (abox Try.prog 42 (.agg ⟨[i64 a.f,i64 a.t,i64 a.m,i64 a.c,i64 a.e,i64 a.a,i64 a.b]⟩) M) (1,.val (pt b1 0),M2),qL 51 bB 6 M2 (pt C 0),qL 42 b1 0 M2 (.agg ⟨[i64 a.f,i64 a.t,i64 a.m,i64 a.c,i64 a.e,i64 a.a,i64 a.b]⟩),qL 28 bB 3 M2 (.slice Sa arcs.length Sc),.ln Sa arcs.length Sc,.cl 48 [pt C 0,.agg ⟨[i64 a.f,i64 a.t,i64 a.m,i64 a.c,i64 a.e,i64 a.a,i64 a.b]⟩,i64 ((arcs.length:Int))] M2 ((bif t18 then 1 else 2),.val (.bool ((isLow (costA arcs) (curAt cur (atP n a)) a.c))),M20),qF ((isLow (costA arcs) (curAt cur (atP n a)) a.c))]):=by cases t18<;>kernel_rfl
 have hkp: ∀id k,M.get id=some k→ ¬(id=(⟨bB,C,K,G,R,U,D⟩:BK).a (.slice Sa arcs.length Sc)∨id∈ [bB,C,K,G,R,U,D])→M20.get id=some k:=fun id k g hown=>by
  have hi0:id∉ [bB,C,K,G,R,U,D]:=fun e=>hown (.inr e)
  simp only [List.mem_cons,List.not_mem_nil,or_false,not_or] at hi0
  obtain⟨h_bB,h_C,h_K,h_G,h_R,h_U,h_D⟩:=hi0
  have g:=E6.old g
  have g:=kp25 id k g (h_K)
  exact g
 refine⟨M20,Ev.told_none noNumP mixedP Try.func50 q50_ok (by kernel_rfl) rK50 (fun B=>sb0 (sbC 48 (TC.ok (Q:=(QOb (obL 73 46 costA (pBA 53) (fun y i=>0≤i∧i<(y.length:Int))))) _) (sbN _))) (fun _ _=>rfl) hraw (.inr rfl) (hk (q_eq (by rw[←eb3,←em4];kernel_rfl) Nat.one_ne_zero) (hk (lC dC51 g9 rfl) (hk (lA ⟨dA42,dS42⟩ g5 rfl) (hk (lC dC28 g9 rfl) (hk (lN hln) (hk (hc21 _ rfl) (hk (bF cc0) hn))))))),X22,hM23,hkp,?_⟩
 exact PBld.next (x:=⟨⟨bB,C,K,G,R,U,D⟩,n,es,ev,.slice Sa arcs.length Sc,⟨⟨arcs,cur⟩,gone,rank,up,down⟩,us,ds⟩) (s:=⟨⟨arcs,lowCur costA (⟨C,K,bB,n,cur,arcs,a,(arcs.length:Int)⟩:LX (List A7))⟩,gone,rank,up,down⟩) hb hkp (.inl rfl) g27 g28 gK2 g29 g30 g31 g32 (ArcsAt.of_acc (hA2.less (fun x hx=>List.mem_cons_of_mem _ (hx))) rfl rfl (Nat.le_of_eq h0.symm)) (hb.up.ext (hids_keep (x:=⟨⟨bB,C,K,G,R,U,D⟩,n,es,ev,.slice Sa arcs.length Sc,⟨⟨arcs,cur⟩,gone,rank,up,down⟩,us,ds⟩) hkp (.inl rfl))) (hb.down.ext (hids_keep (x:=⟨⟨bB,C,K,G,R,U,D⟩,n,es,ev,.slice Sa arcs.length Sc,⟨⟨arcs,cur⟩,gone,rank,up,down⟩,us,ds⟩) hkp (.inl rfl)))
instance:InjV (fun a:A7=> [Value.agg ⟨aRow a⟩]):=⟨fun{x y} h=>by simp only [List.cons.injEq,Value.agg.injEq,Array.mk.injEq,and_true] at h;obtain⟨x1,x2,x3,x4,x5,x6,x7⟩:=x;obtain⟨y1,y2,y3,y4,y5,y6,y7⟩:=y;simpa [i64] using h⟩
def okOf(x:BSt)(a:A7):Prop:=x.n≤60∧(∃c,HI x.n c x.s.b)∧x.s.b.arcs.length<536870912∧(0≤a.f∧a.f<x.n)∧(0≤a.t∧a.t<x.n)∧(0≤a.m∧a.m<5)
abbrev ob50:OB (BSt×A7):=obB 53 73 42 22 46 (fun a=> [.agg ⟨aRow a⟩]) okOf (fun x a _ s=>s={x.s with b:=offerH x.n x.s.b a})
theorem con50{x:BSt×A7}{lv:List Value}{M:Mem}(hM:MemOk M)(h:ob50.A x lv M)(hlo:ob50.lo x≤M.next): ∃v M',TO Try.prog 50 ob50 lv M v M':=by
 have hA:=h
 obtain⟨⟨⟨bB,C,K,G,R,U,D⟩,n,es,ev,S,⟨⟨arcs,cur⟩,gone,rank,up,down⟩,us,ds⟩,a⟩:=x
 obtain⟨rfl,hb,hn,⟨c,hHI⟩,hl,hf,ht,hm⟩:=h
 simp only at hb hn hHI hl hf ht hm
 obtain⟨Sa,Sc,hS,hln⟩:=hb.acc.form
 simp only at hS hln
 subst hS
 have X0:Ext (cut G M) M:=Ext.cut hlo
 have hk:=(pl_range hf ht hm)
 have hcl:cur.length=n*n*5:=hHI.len
 have hkl:atP n a<cur.length:=by rw[hcl];unfold atP;omega
 have hok:curAt cur (atP n a)= -1∨(0≤curAt cur (atP n a)∧curAt cur (atP n a)<(arcs.length:Int)):=by
  rcases hHI.cur _ _ (curAt_some hkl) with e|⟨e1,y,e2,_⟩
  ·exact .inl e
  ·have:=(List.getElem?_eq_some_iff.1 e2).1
   simp only at this
   exact .inr ⟨e1,by omega⟩
 have hcond:=(⟨hn,hcl,hf,ht,hm,hok⟩:n≤60∧cur.length=n*n*5∧(0≤a.f∧a.f<(n:Int))∧(0≤a.t∧a.t<(n:Int))∧(0≤a.m∧a.m<5)∧(curAt cur (atP n a)= -1∨(0≤curAt cur (atP n a)∧curAt cur (atP n a)<(arcs.length:Int))))
 have hl1:arcs.length≤9223372036854775807:=by omega
 have hl2:arcs.length<1073741824:=by omega
 cases hq:isLow (costA arcs) (curAt cur (atP n a)) a.c with
 |true=>
  obtain⟨S',M',h1,h2,h3,h4,h5,h6⟩:=hw50t bB C K G R U D n es ev Sa Sc arcs cur gone rank up down us ds a hM X0 rfl hb hln hl1 hl2 hcond hq
  refine⟨_,M',h1,_,hA,hlo,h2,h4,S',us,ds,_,h5,h6,?_⟩
  simp [offerH,lowCur,hq]
 |false=>
  obtain⟨M',h1,h2,h3,h4,h5⟩:=hw50f bB C K G R U D n es ev Sa Sc arcs cur gone rank up down us ds a hM X0 rfl hb hln hl1 hl2 hcond hq
  refine⟨_,M',h1,_,hA,hlo,h2,h4,_,us,ds,_,h5,.inl rfl,?_⟩
  simp [offerH,lowCur,hq]
theorem rbv(ab ub uo ul uc j v bB C K G R U D n:Nat)(es:List E4)(ev:Value)(arcs:List A7)(cur:List Int)(gone:List Bool)(rank:List Int)(up down:List (List Int))(us ds:List Value)(x y:A7)(i o:Int)(dr dl di:Value){M:Mem}(hb:PBld 53 73 42 22 46 ⟨⟨bB,C,K,G,R,U,D⟩,n,es,ev,sli ab 0 arcs.length arcs.length,⟨⟨arcs,cur⟩,gone,rank,up,down⟩,us,ds⟩ M)(harcs0:pArcs arcs (sli ab 0 arcs.length arcs.length) M)(hxi:aAt arcs i=x)(hyo:aAt arcs o=y)(hio:(0≤i∧i<(arcs.length:Int))∧(0≤o∧o<(arcs.length:Int))∧0≤(aAt arcs i).c+(aAt arcs o).c∧(aAt arcs i).c+(aAt arcs o).c<9223372036854775808)(hok:okOf ⟨⟨bB,C,K,G,R,U,D⟩,n,es,ev,sli ab 0 arcs.length arcs.length,⟨⟨arcs,cur⟩,gone,rank,up,down⟩,us,ds⟩ (arcS x y i o))(cc0:(decide (((j:Int))<((ul:Int))))=true)(cc1:(y.t==((v:Int)))=true)(hld0:aload Try.prog 3 ⟨ub,uo+((j:Int):Int).toNat*1,none⟩ M=some (i64 o))(hld1:aload Try.prog 3 ⟨ab,0+(o:Int).toNat*7+1,none⟩ M=some (i64 y.t)): ∃T1,Rd Try.prog [] (q58.loopAt 2) Try.f58.ntmps (fr [(0,(pt bB 0)),(1,(i64 ((v:Int)))),(5,(i64 i)),(16,dr),(17,dl),(18,di),(29,(sli ub uo ul uc)),(30,(i64 ((ul:Int)))),(31,(i64 ((j:Int))))]) M .normal T1 M∧ [0,1,5,16,17,18,29,30,31].map T1.get= [some (pt bB 0),some (i64 ((v:Int))),some (i64 i),some dr,some dl,some di,some (sli ub uo ul uc),some (i64 ((ul:Int))),some (i64 (IntKind.wrap .i64 (((j:Int))+(1:Int))))]:=by
 have gbB:M.get bB=some ⟨[i64 n,ev,sli R 0 n (n+1),sli ab 0 arcs.length arcs.length,sli U 0 n (n+1),sli D 0 n (n+1),pt C 0,sli G 0 n (n+1)],53,8,0,true⟩:=hb.gB
 have hraw:oR Try.prog [] 60 Try.f58 (q58.loopAt 2) [(0,(pt bB 0)),(1,(i64 ((v:Int)))),(5,(i64 i)),(16,dr),(17,dl),(18,di),(29,(sli ub uo ul uc)),(30,(i64 ((ul:Int)))),(31,(i64 ((j:Int))))] M [ttT 2,ttT 4,ttL 6 (i64 o),ttL 18 (sli ab 0 arcs.length arcs.length),ttT 26,ttL 30 (i64 y.t),ttF 37,ttF 39,ttF 41,ttF 43,ttF 45,ttF 47,ttF 49,ttF 51,ttF 53,ttF 55,ttF 57,ttF 60] [0,1,5,16,17,18,29,30,31]=some (.normal,[some (pt bB 0),some (i64 ((v:Int))),some (i64 i),some dr,some dl,some di,some (sli ub uo ul uc),some (i64 ((ul:Int))),some (i64 (IntKind.wrap .i64 (((j:Int))+(1:Int))))],M,[qT (decide (((j:Int))<((ul:Int)))),.q (.inb ((j:Int)) ul) (ansB true),qL 3 ub (uo+((j:Int):Int).toNat*1) M (i64 o),qL 28 bB 3 M (sli ab 0 arcs.length arcs.length),.q (.inb o arcs.length) (ansB true),qL 3 ab (0+(o:Int).toNat*7+1) M (i64 y.t),qF (!(y.t==((v:Int)))),qF (!(y.t==((v:Int)))),qF (!(y.t==((v:Int)))),qF (!(y.t==((v:Int)))),qF (!(y.t==((v:Int)))),qF (!(y.t==((v:Int)))),qF (!(y.t==((v:Int)))),qF (!(y.t==((v:Int)))),qF (!(y.t==((v:Int)))),qF (!(y.t==((v:Int)))),qF (!(y.t==((v:Int)))),qF (!(y.t==((v:Int))))]):=by kernel_rfl
 obtain⟨T1,h1,h2⟩:=Rd.told noNumP mixedP (specs_none Try.prog) (fun _ _=>rfl) hraw (hk (bT cc0) (hk (q_inb (by omega) (by simp at cc0;omega)) (hk (q_ld (hld0)) (hk (lC dC28 gbB rfl) (hk (q_inb hio.2.1.1 hio.2.1.2) (hk (q_ld (hld1)) (hk (bF (by rw[cc1];rfl)) (hk (bF (by rw[cc1];rfl)) (hk (bF (by rw[cc1];rfl)) (hk (bF (by rw[cc1];rfl)) (hk (bF (by rw[cc1];rfl)) (hk (bF (by rw[cc1];rfl)) (hk (bF (by rw[cc1];rfl)) (hk (bF (by rw[cc1];rfl)) (hk (bF (by rw[cc1];rfl)) (hk (bF (by rw[cc1];rfl)) (hk (bF (by rw[cc1];rfl)) (hk (bF (by rw[cc1];rfl)) hn))))))))))))))))))
 exact⟨T1,h1,h2⟩
theorem rbo(ab ub uo ul uc j v bB C K G R U D n:Nat)(es:List E4)(ev:Value)(arcs:List A7)(cur:List Int)(gone:List Bool)(rank:List Int)(up down:List (List Int))(us ds:List Value)(x y:A7)(i o:Int)(dr dl di:Value){M M0:Mem}(hM:MemOk M)(X0:Ext M0 M)(h0:M0.next=G)(hb:PBld 53 73 42 22 46 ⟨⟨bB,C,K,G,R,U,D⟩,n,es,ev,sli ab 0 arcs.length arcs.length,⟨⟨arcs,cur⟩,gone,rank,up,down⟩,us,ds⟩ M)(harcs0:pArcs arcs (sli ab 0 arcs.length arcs.length) M)(hxi:aAt arcs i=x)(hyo:aAt arcs o=y)(hio:(0≤i∧i<(arcs.length:Int))∧(0≤o∧o<(arcs.length:Int))∧0≤(aAt arcs i).c+(aAt arcs o).c∧(aAt arcs i).c+(aAt arcs o).c<9223372036854775808)(hok:okOf ⟨⟨bB,C,K,G,R,U,D⟩,n,es,ev,sli ab 0 arcs.length arcs.length,⟨⟨arcs,cur⟩,gone,rank,up,down⟩,us,ds⟩ (arcS x y i o))(cc0:(decide (((j:Int))<((ul:Int))))=true)(cc1:(y.t==((v:Int)))=false)(cc2:(x.m==y.m)=true)(hld0:aload Try.prog 3 ⟨ub,uo+((j:Int):Int).toNat*1,none⟩ M=some (i64 o))(hld1:aload Try.prog 3 ⟨ab,0+(o:Int).toNat*7+1,none⟩ M=some (i64 y.t))(hld2:aload Try.prog 3 ⟨ab,0+(i:Int).toNat*7+2,none⟩ M=some (i64 x.m))(hld3:aload Try.prog 3 ⟨ab,0+(o:Int).toNat*7+2,none⟩ M=some (i64 y.m)): ∃T1 M' S19 u20 d21,Rd Try.prog [] (q58.loopAt 2) Try.f58.ntmps (fr [(0,(pt bB 0)),(1,(i64 ((v:Int)))),(5,(i64 i)),(16,dr),(17,dl),(18,di),(29,(sli ub uo ul uc)),(30,(i64 ((ul:Int)))),(31,(i64 ((j:Int))))]) M .normal T1 M'∧ [0,1,5,16,17,18,29,30,31].map T1.get= [some (pt bB 0),some (i64 ((v:Int))),some (i64 i),some dr,some dl,some di,some (sli ub uo ul uc),some (i64 ((ul:Int))),some (i64 (IntKind.wrap .i64 (((j:Int))+(1:Int))))]∧Ext M0 M'∧MemOk M'∧PBld 53 73 42 22 46 ⟨⟨bB,C,K,G,R,U,D⟩,n,es,ev,S19,⟨offerH n ⟨arcs,cur⟩ (arcS x y i o),gone,rank,up,down⟩,u20,d21⟩ M'∧(∀id b,M.get id=some b→ ¬(id=(⟨bB,C,K,G,R,U,D⟩:BK).a (sli ab 0 arcs.length arcs.length)∨id∈(⟨bB,C,K,G,R,U,D⟩:BK).ids)→M'.get id=some b)∧((⟨bB,C,K,G,R,U,D⟩:BK).a S19=(⟨bB,C,K,G,R,U,D⟩:BK).a (sli ab 0 arcs.length arcs.length)∨(⟨bB,C,K,G,R,U,D⟩:BK).a S19=(⟨bB,C,K,G,R,U,D⟩:BK).B∨M.next≤(⟨bB,C,K,G,R,U,D⟩:BK).a S19)∧M.next≤M'.next:=by
 have gbB:M.get bB=some ⟨[i64 n,ev,sli R 0 n (n+1),sli ab 0 arcs.length arcs.length,sli U 0 n (n+1),sli D 0 n (n+1),pt C 0,sli G 0 n (n+1)],53,8,0,true⟩:=hb.gB
 have gG:M.get G=some ⟨gone.map Value.bool,4,1,0,true⟩:=hb.gG
 have nG:M0.next≤G:=by rw[h0];exact hb.lo G (by simp [BK.ids])
 have hnd:([bB,C,K,G,R,U,D]:List Nat).Nodup:=hb.nd
 obtain⟨dbBC,dbBK,dbBG,dbBR,dbBU,dbBD,dCK,dCG,dCR,dCU,dCD,dKG,dKR,dKU,dKD,dGR,dGU,dGD,dRU,dRD,dUD⟩:=nd7 hnd
 have harcs:=harcs0
 obtain⟨w1,N2,M3,p4,l5,e6,E7,hM8,F9⟩:=call_fc (x:=(arcs,i,o)) hM con79 (⟨⟨_,_,_,rfl,harcs,rfl,rfl⟩,hio⟩)
 have nx10:=E7.next
 have g14:=E7.old gG
 have ew1:w1=(.agg ⟨[i64 x.f,i64 y.t,i64 x.m,i64 (x.c+y.c),i64 (-1),i64 i,i64 o]⟩):=by have h9:w1= .agg ⟨aRow (arcS (aAt arcs i) (aAt arcs o) i o)⟩:=F9;rw[hxi,hyo] at h9;exact h9
 subst ew1
 have X18:=X0.trans E7
 obtain⟨t24,w25,M26,hc27,X28,hM29,nx30,kp31,hR32⟩:=call_ob (P:=Try.prog) (o:=ob50) (f:=50) (x:=(⟨⟨bB,C,K,G,R,U,D⟩,n,es,ev,sli ab 0 arcs.length arcs.length,⟨⟨arcs,cur⟩,gone,rank,up,down⟩,us,ds⟩,(arcS x y i o))) (l:= [pt bB 0,.agg ⟨[i64 x.f,i64 y.t,i64 x.m,i64 (x.c+y.c),i64 (-1),i64 i,i64 o]⟩]) hM8 X18 (nG) (Nat.le_of_lt (Mem.lt_of_get g14)) (⟨rfl,hb.old (fun id b h=>(E7.old h)),hok⟩) con50
 obtain⟨S19,u20,d21,_,hb22,hS23,rfl⟩:=hR32
 have hraw:oR Try.prog [] 60 Try.f58 (q58.loopAt 2) [(0,(pt bB 0)),(1,(i64 ((v:Int)))),(5,(i64 i)),(16,dr),(17,dl),(18,di),(29,(sli ub uo ul uc)),(30,(i64 ((ul:Int)))),(31,(i64 ((j:Int))))] M [ttT 2,ttT 4,ttL 6 (i64 o),ttL 18 (sli ab 0 arcs.length arcs.length),ttT 26,ttL 30 (i64 y.t),ttT 37,ttT 39,ttT 41,ttT 42,ttT 43,ttT 45,ttL 46 (i64 x.m),ttT 47,ttT 49,ttT 51,ttT 52,ttT 53,ttT 55,ttL 56 (i64 y.m),ttT 57,ttT 60,ttT 61,ttV 71 (.agg ⟨[i64 x.f,i64 y.t,i64 x.m,i64 (x.c+y.c),i64 (-1),i64 i,i64 o]⟩) M3,.at 73 ((bif t24 then 1 else 2),.val w25,M26)] [0,1,5,16,17,18,29,30,31]=some (.normal,[some (pt bB 0),some (i64 ((v:Int))),some (i64 i),some dr,some dl,some di,some (sli ub uo ul uc),some (i64 ((ul:Int))),some (i64 (IntKind.wrap .i64 (((j:Int))+(1:Int))))],M26,[qT (decide (((j:Int))<((ul:Int)))),.q (.inb ((j:Int)) ul) (ansB true),qL 3 ub (uo+((j:Int):Int).toNat*1) M (i64 o),qL 28 bB 3 M (sli ab 0 arcs.length arcs.length),.q (.inb o arcs.length) (ansB true),qL 3 ab (0+(o:Int).toNat*7+1) M (i64 y.t),qT (!(y.t==((v:Int)))),qT (!(y.t==((v:Int)))),qT (!(y.t==((v:Int)))),.q (.inb i arcs.length) (ansB true),qT (!(y.t==((v:Int)))),qT (!(y.t==((v:Int)))),qL 3 ab (0+(i:Int).toNat*7+2) M (i64 x.m),qT (!(y.t==((v:Int)))),qT (!(y.t==((v:Int)))),qT (!(y.t==((v:Int)))),.q (.inb o arcs.length) (ansB true),qT (!(y.t==((v:Int)))),qT (!(y.t==((v:Int)))),qL 3 ab (0+(o:Int).toNat*7+2) M (i64 y.m),qT (!(y.t==((v:Int)))),qT (!(y.t==((v:Int)))),qT (x.m==y.m),qC 79 [sli ab 0 arcs.length arcs.length,i64 i,i64 o] M (.agg ⟨[i64 x.f,i64 y.t,i64 x.m,i64 (x.c+y.c),i64 (-1),i64 i,i64 o]⟩) M3,.cl 50 [pt bB 0,.agg ⟨[i64 x.f,i64 y.t,i64 x.m,i64 (x.c+y.c),i64 (-1),i64 i,i64 o]⟩] M3 ((bif t24 then 1 else 2),.val w25,M26)]):=by cases t24<;>kernel_rfl
 obtain⟨T1,h1,h2⟩:=Rd.told noNumP mixedP (fun B=>sb0 (sbC 50 (TC.ok (Q:=(QOb (ob50))) _) (sbQ 79 Q79 (sbN _)))) (fun _ _=>rfl) hraw (hk (bT cc0) (hk (q_inb (by omega) (by simp at cc0;omega)) (hk (q_ld (hld0)) (hk (lC dC28 gbB rfl) (hk (q_inb hio.2.1.1 hio.2.1.2) (hk (q_ld (hld1)) (hk (bT (by rw[cc1];rfl)) (hk (bT (by rw[cc1];rfl)) (hk (bT (by rw[cc1];rfl)) (hk (q_inb hio.1.1 hio.1.2) (hk (bT (by rw[cc1];rfl)) (hk (bT (by rw[cc1];rfl)) (hk (q_ld (hld2)) (hk (bT (by rw[cc1];rfl)) (hk (bT (by rw[cc1];rfl)) (hk (bT (by rw[cc1];rfl)) (hk (q_inb hio.2.1.1 hio.2.1.2) (hk (bT (by rw[cc1];rfl)) (hk (bT (by rw[cc1];rfl)) (hk (q_ld (hld3)) (hk (bT (by rw[cc1];rfl)) (hk (bT (by rw[cc1];rfl)) (hk (bT cc2) (hk (q_call rfl p4 l5 e6) (hk (hc27 _ rfl) hn)))))))))))))))))))))))))
 exact⟨T1,M26,S19,u20,d21,h1,h2,X28,hM29,hb22,fun id b g h=>kp31 id b (E7.old g) h,hS23.imp id (Or.imp id (Nat.le_trans (by omega))),by omega⟩
theorem rbm(ab ub uo ul uc j v bB C K G R U D n:Nat)(es:List E4)(ev:Value)(arcs:List A7)(cur:List Int)(gone:List Bool)(rank:List Int)(up down:List (List Int))(us ds:List Value)(x y:A7)(i o:Int)(dr dl di:Value){M:Mem}(hb:PBld 53 73 42 22 46 ⟨⟨bB,C,K,G,R,U,D⟩,n,es,ev,sli ab 0 arcs.length arcs.length,⟨⟨arcs,cur⟩,gone,rank,up,down⟩,us,ds⟩ M)(harcs0:pArcs arcs (sli ab 0 arcs.length arcs.length) M)(hxi:aAt arcs i=x)(hyo:aAt arcs o=y)(hio:(0≤i∧i<(arcs.length:Int))∧(0≤o∧o<(arcs.length:Int))∧0≤(aAt arcs i).c+(aAt arcs o).c∧(aAt arcs i).c+(aAt arcs o).c<9223372036854775808)(hok:okOf ⟨⟨bB,C,K,G,R,U,D⟩,n,es,ev,sli ab 0 arcs.length arcs.length,⟨⟨arcs,cur⟩,gone,rank,up,down⟩,us,ds⟩ (arcS x y i o))(cc0:(decide (((j:Int))<((ul:Int))))=true)(cc1:(y.t==((v:Int)))=false)(cc2:(x.m==y.m)=false)(hld0:aload Try.prog 3 ⟨ub,uo+((j:Int):Int).toNat*1,none⟩ M=some (i64 o))(hld1:aload Try.prog 3 ⟨ab,0+(o:Int).toNat*7+1,none⟩ M=some (i64 y.t))(hld2:aload Try.prog 3 ⟨ab,0+(i:Int).toNat*7+2,none⟩ M=some (i64 x.m))(hld3:aload Try.prog 3 ⟨ab,0+(o:Int).toNat*7+2,none⟩ M=some (i64 y.m)): ∃T1,Rd Try.prog [] (q58.loopAt 2) Try.f58.ntmps (fr [(0,(pt bB 0)),(1,(i64 ((v:Int)))),(5,(i64 i)),(16,dr),(17,dl),(18,di),(29,(sli ub uo ul uc)),(30,(i64 ((ul:Int)))),(31,(i64 ((j:Int))))]) M .normal T1 M∧ [0,1,5,16,17,18,29,30,31].map T1.get= [some (pt bB 0),some (i64 ((v:Int))),some (i64 i),some dr,some dl,some di,some (sli ub uo ul uc),some (i64 ((ul:Int))),some (i64 (IntKind.wrap .i64 (((j:Int))+(1:Int))))]:=by
 have gbB:M.get bB=some ⟨[i64 n,ev,sli R 0 n (n+1),sli ab 0 arcs.length arcs.length,sli U 0 n (n+1),sli D 0 n (n+1),pt C 0,sli G 0 n (n+1)],53,8,0,true⟩:=hb.gB
 have hraw:oR Try.prog [] 60 Try.f58 (q58.loopAt 2) [(0,(pt bB 0)),(1,(i64 ((v:Int)))),(5,(i64 i)),(16,dr),(17,dl),(18,di),(29,(sli ub uo ul uc)),(30,(i64 ((ul:Int)))),(31,(i64 ((j:Int))))] M [ttT 2,ttT 4,ttL 6 (i64 o),ttL 18 (sli ab 0 arcs.length arcs.length),ttT 26,ttL 30 (i64 y.t),ttT 37,ttT 39,ttT 41,ttT 42,ttT 43,ttT 45,ttL 46 (i64 x.m),ttT 47,ttT 49,ttT 51,ttT 52,ttT 53,ttT 55,ttL 56 (i64 y.m),ttT 57,ttT 60,ttF 61] [0,1,5,16,17,18,29,30,31]=some (.normal,[some (pt bB 0),some (i64 ((v:Int))),some (i64 i),some dr,some dl,some di,some (sli ub uo ul uc),some (i64 ((ul:Int))),some (i64 (IntKind.wrap .i64 (((j:Int))+(1:Int))))],M,[qT (decide (((j:Int))<((ul:Int)))),.q (.inb ((j:Int)) ul) (ansB true),qL 3 ub (uo+((j:Int):Int).toNat*1) M (i64 o),qL 28 bB 3 M (sli ab 0 arcs.length arcs.length),.q (.inb o arcs.length) (ansB true),qL 3 ab (0+(o:Int).toNat*7+1) M (i64 y.t),qT (!(y.t==((v:Int)))),qT (!(y.t==((v:Int)))),qT (!(y.t==((v:Int)))),.q (.inb i arcs.length) (ansB true),qT (!(y.t==((v:Int)))),qT (!(y.t==((v:Int)))),qL 3 ab (0+(i:Int).toNat*7+2) M (i64 x.m),qT (!(y.t==((v:Int)))),qT (!(y.t==((v:Int)))),qT (!(y.t==((v:Int)))),.q (.inb o arcs.length) (ansB true),qT (!(y.t==((v:Int)))),qT (!(y.t==((v:Int)))),qL 3 ab (0+(o:Int).toNat*7+2) M (i64 y.m),qT (!(y.t==((v:Int)))),qT (!(y.t==((v:Int)))),qF (x.m==y.m)]):=by kernel_rfl
 obtain⟨T1,h1,h2⟩:=Rd.told noNumP mixedP (specs_none Try.prog) (fun _ _=>rfl) hraw (hk (bT cc0) (hk (q_inb (by omega) (by simp at cc0;omega)) (hk (q_ld (hld0)) (hk (lC dC28 gbB rfl) (hk (q_inb hio.2.1.1 hio.2.1.2) (hk (q_ld (hld1)) (hk (bT (by rw[cc1];rfl)) (hk (bT (by rw[cc1];rfl)) (hk (bT (by rw[cc1];rfl)) (hk (q_inb hio.1.1 hio.1.2) (hk (bT (by rw[cc1];rfl)) (hk (bT (by rw[cc1];rfl)) (hk (q_ld (hld2)) (hk (bT (by rw[cc1];rfl)) (hk (bT (by rw[cc1];rfl)) (hk (bT (by rw[cc1];rfl)) (hk (q_inb hio.2.1.1 hio.2.1.2) (hk (bT (by rw[cc1];rfl)) (hk (bT (by rw[cc1];rfl)) (hk (q_ld (hld3)) (hk (bT (by rw[cc1];rfl)) (hk (bT (by rw[cc1];rfl)) (hk (bF cc2) hn)))))))))))))))))))))))
 exact⟨T1,h1,h2⟩
theorem rbx(bB v ul j:Nat)(i:Int)(ua:Option Addr)(uc:Nat)(dr dl di:Value){M:Mem}(cc0:(decide (((j:Int))<((ul:Int))))=false): ∃T1,Rd Try.prog [] (q58.loopAt 2) Try.f58.ntmps (fr [(0,(pt bB 0)),(1,(i64 ((v:Int)))),(5,(i64 i)),(16,dr),(17,dl),(18,di),(29,(.slice ua ul uc)),(30,(i64 ((ul:Int)))),(31,(i64 ((j:Int))))]) M (.exit 2) T1 M∧ [0,1,16,17,18].map T1.get= [some (pt bB 0),some (i64 ((v:Int))),some dr,some dl,some di]:=by
 have hraw:oR Try.prog [] 60 Try.f58 (q58.loopAt 2) [(0,(pt bB 0)),(1,(i64 ((v:Int)))),(5,(i64 i)),(16,dr),(17,dl),(18,di),(29,(.slice ua ul uc)),(30,(i64 ((ul:Int)))),(31,(i64 ((j:Int))))] M [ttF 2] [0,1,16,17,18]=some ((.exit 2),[some (pt bB 0),some (i64 ((v:Int))),some dr,some dl,some di],M,[qF (decide (((j:Int))<((ul:Int))))]):=by kernel_rfl
 obtain⟨T1,h1,h2⟩:=Rd.told noNumP mixedP (specs_none Try.prog) (fun _ _=>rfl) hraw (hk (bF cc0) hn)
 exact⟨T1,h1,h2⟩
theorem stepB{bB C K G R U D n:Nat}{es:List E4}{ev S:Value}{sb s0:HB}{gone:List Bool}{rank:List Int}{up down:List (List Int)}{us ds:List Value}{ub uo ul uc j v:Nat}{i o:Int}{dr dl di:Value}{M0 M:Mem}(hM:MemOk M)(X0:Ext M0 M)(h0:M0.next=G)(hb:PBld 53 73 42 22 46 ⟨⟨bB,C,K,G,R,U,D⟩,n,es,ev,S,⟨s0,gone,rank,up,down⟩,us,ds⟩ M){c:Int}{kk:Nat}(hsb:HI n c sb)(hBr:BrI n c sb kk s0)(hn60:n≤60)(hc:0≤c∧2*c<9223372036854775808)(hi:0≤i∧i.toNat<sb.arcs.length)(ho:0≤o∧o.toNat<sb.arcs.length)(hlen:sb.arcs.length+kk<536870912)(hj:j<ul)(hld:aload Try.prog 3 ⟨ub,uo+((j:Int):Int).toNat*1,none⟩ M=some (i64 o)):
  ∃T1 M',Rd Try.prog [] (q58.loopAt 2) Try.f58.ntmps (fr [(0,pt bB 0),(1,i64 v),(5,i64 i),(16,dr),(17,dl),(18,di),(29,(sli ub uo ul uc)),(30,i64 ul),(31,i64 j)]) M .normal T1 M'∧ [0,1,5,16,17,18,29,30,31].map T1.get= [some (pt bB 0),some (i64 v),some (i64 i),some dr,some dl,some di,some (sli ub uo ul uc),some (i64 ul),some (i64 (IntKind.wrap .i64 ((j:Int)+(1:Int))))]∧Ext M0 M'∧MemOk M'∧ ∃S' us' ds',PBld 53 73 42 22 46 ⟨⟨bB,C,K,G,R,U,D⟩,n,es,ev,S',⟨brOne n v i s0 o,gone,rank,up,down⟩,us',ds'⟩ M'∧(∀id b,M.get id=some b→ ¬(id=(⟨bB,C,K,G,R,U,D⟩:BK).a S∨id∈(⟨bB,C,K,G,R,U,D⟩:BK).ids)→M'.get id=some b)∧((⟨bB,C,K,G,R,U,D⟩:BK).a S'=(⟨bB,C,K,G,R,U,D⟩:BK).a S∨(⟨bB,C,K,G,R,U,D⟩:BK).a S'=(⟨bB,C,K,G,R,U,D⟩:BK).B∨M.next≤(⟨bB,C,K,G,R,U,D⟩:BK).a S')∧M.next≤M'.next:=by
 obtain⟨arcs,cur⟩:=s0
 have t1:=hBr.old _ _ (List.getElem?_eq_getElem hi.2)
 have t2:=hBr.old _ _ (List.getElem?_eq_getElem ho.2)
 obtain⟨p1,p2,p3,p4⟩:=hsb.arc _ (List.getElem_mem hi.2)
 obtain⟨q1,q2,q3,q4⟩:=hsb.arc _ (List.getElem_mem ho.2)
 generalize hx:sb.arcs[i.toNat]=x at t1 p1 p2 p3 p4
 generalize hy:sb.arcs[o.toNat]=y at t2 q1 q2 q3 q4
 simp only at t1 t2
 have li:=(List.getElem?_eq_some_iff.1 t1).1
 have lo:=(List.getElem?_eq_some_iff.1 t2).1
 have hlen2:=hBr.len
 simp only at hlen2
 have hxi:=aAt_some t1
 have hyo:=aAt_some t2
 have harcs:pArcs arcs S M:=hb.acc.rows (by show arcs.length≤_;omega)
 have hform: ∃ab,S=sli ab 0 arcs.length arcs.length:=by
  rcases hb.acc with⟨_,h2⟩|⟨ab,h1,_⟩
  ·simp only at h2;rw[h2] at li;simp at li
  ·exact⟨ab,h1⟩
 obtain⟨ab,rfl⟩:=hform
 have l1:=ld_cell (P:=Try.prog) (ty:=3) (j:=1) (v:=i64 y.t) harcs t2 rfl dC3
 have l2:=ld_cell (P:=Try.prog) (ty:=3) (j:=2) (v:=i64 x.m) harcs t1 rfl dC3
 have l3:=ld_cell (P:=Try.prog) (ty:=3) (j:=2) (v:=i64 y.m) harcs t2 rfl dC3
 have hio:(0≤i∧i<(arcs.length:Int))∧(0≤o∧o<(arcs.length:Int))∧0≤(aAt arcs i).c+(aAt arcs o).c∧(aAt arcs i).c+(aAt arcs o).c<9223372036854775808:=by rw[hxi,hyo];exact⟨⟨hi.1,by omega⟩,⟨ho.1,by omega⟩,by omega,by omega⟩
 have hok:okOf ⟨⟨bB,C,K,G,R,U,D⟩,n,es,ev,sli ab 0 arcs.length arcs.length,⟨⟨arcs,cur⟩,gone,rank,up,down⟩,us,ds⟩ (arcS x y i o):=⟨hn60,⟨_,hBr.hi⟩,by show arcs.length<_;omega,p1,q2,p3⟩
 have hbr:brOne n v i ⟨arcs,cur⟩ o=bif y.t !=((v:Int))&&x.m==y.m then offerH n ⟨arcs,cur⟩ (arcS x y i o) else⟨arcs,cur⟩:=by unfold brOne;simp only [t1,t2]
 cases c1:y.t==(v:Int) with
 |true=>
  obtain⟨T1,h1,h2⟩:=rbv ab ub uo ul uc j v bB C K G R U D n es ev arcs cur gone rank up down us ds x y i o dr dl di (M:=M) hb harcs hxi hyo hio hok (decide_eq_true (by omega)) c1 hld l1
  refine⟨T1,M,h1,h2,X0,hM,_,us,ds,?_,fun _ _ g _=>g,.inl rfl,Nat.le_refl _⟩
  rw[hbr];simp only [bne,c1,Bool.not_true,Bool.false_and,cond_false];exact hb
 |false=>
  cases c2:x.m==y.m with
  |false=>
   obtain⟨T1,h1,h2⟩:=rbm ab ub uo ul uc j v bB C K G R U D n es ev arcs cur gone rank up down us ds x y i o dr dl di (M:=M) hb harcs hxi hyo hio hok (decide_eq_true (by omega)) c1 c2 hld l1 l2 l3
   refine⟨T1,M,h1,h2,X0,hM,_,us,ds,?_,fun _ _ g _=>g,.inl rfl,Nat.le_refl _⟩
   rw[hbr];simp only [bne,c1,c2,Bool.and_false,cond_false];exact hb
  |true=>
   obtain⟨T1,M',S',us',ds',h1,h2,h3,h4,h5,h6⟩:=rbo ab ub uo ul uc j v bB C K G R U D n es ev arcs cur gone rank up down us ds x y i o dr dl di hM X0 h0 hb harcs hxi hyo hio hok (decide_eq_true (by omega)) c1 c2 hld l1 l2 l3
   refine⟨T1,M',h1,h2,h3,h4,S',us',ds',?_,h6⟩
   rw[hbr];simp only [bne,c1,c2,Bool.not_false,Bool.true_and,cond_true];exact h5
theorem loopBi{bB C K G R U D n:Nat}{es:List E4}{ev S:Value}{sb s0:HB}{gone:List Bool}{rank:List Int}{up down:List (List Int)}{us ds:List Value}{ul uc v:Nat}{ua:Option Addr}{i:Int}{ups:List Int}{dr dl di:Value}{M0 M:Mem}(hM:MemOk M)(X0:Ext M0 M)(h0:M0.next=G)(hb:PBld 53 73 42 22 46 ⟨⟨bB,C,K,G,R,U,D⟩,n,es,ev,S,⟨s0,gone,rank,up,down⟩,us,ds⟩ M){c:Int}{kk:Nat}(hsb:HI n c sb)(hBr:BrI n c sb kk s0)(hn60:n≤60)(hc:0≤c∧2*c<9223372036854775808)(hi:0≤i∧i.toNat<sb.arcs.length)(hups: ∀o∈ups,0≤o∧o.toNat<sb.arcs.length)(hlen:sb.arcs.length+kk+ups.length<536870912)(hul:ups.length=ul)(hu:pInts ups (.slice ua ul uc) (hidx ((⟨bB,C,K,G,R,U,D⟩:BK).hideS S) M)):
  ∃M',LoopR Try.prog [] (q58.loopAt 2) Try.f58.ntmps (fr [(0,pt bB 0),(1,i64 v),(5,i64 i),(16,dr),(17,dl),(18,di),(29,(.slice ua ul uc)),(30,i64 ul),(31,i64 ((0:Nat):Int))]) M (.exit 2) (fr [(0,pt bB 0),(1,i64 v),(16,dr),(17,dl),(18,di)]) M'∧Ext M0 M'∧MemOk M'∧ ∃S' us' ds',PBld 53 73 42 22 46 ⟨⟨bB,C,K,G,R,U,D⟩,n,es,ev,S',⟨brRow n v ups s0 i,gone,rank,up,down⟩,us',ds'⟩ M'∧FrB (⟨bB,C,K,G,R,U,D⟩:BK) S M S' M':=by
 subst hul
 obtain⟨⟨S',us',ds'⟩,M',h1,h2,h3,h4,h5⟩:=LoopR.for (P:=Try.prog) (GL:= []) (b:=q58.loopAt 2) (nt:=Try.f58.ntmps) (id:=2) (σ:=Value×List Value×List Value) (n:=ups.length) (Inv:=fun j σ M1=>Ext M0 M1∧MemOk M1∧PBld 53 73 42 22 46 ⟨⟨bB,C,K,G,R,U,D⟩,n,es,ev,σ.1,⟨(ups.take j).foldl (brOne n v i) s0,gone,rank,up,down⟩,σ.2.1,σ.2.2⟩ M1∧FrB (⟨bB,C,K,G,R,U,D⟩:BK) S M σ.1 M1)
  (F:=fun j _=> [(0,pt bB 0),(1,i64 v),(5,i64 i),(16,dr),(17,dl),(18,di),(29,(.slice ua ups.length uc)),(30,i64 ups.length),(31,i64 ((j:Nat):Int))])
  (O:=fun _=> [(0,pt bB 0),(1,i64 v),(16,dr),(17,dl),(18,di)])
  (by
   rintro j ⟨S1,us1,ds1⟩ M1 hj ⟨X1,hM1,hb1,hF⟩
   simp only at hb1 hF
   have hu1:pInts ups (.slice ua ups.length uc) M1:=hx_out (R:=pInts) (AP.ext (R:=pInts) hF.hids hu)
   obtain⟨ub,uo,rfl,_⟩:=form_pos hu1 (by omega)
   have ht:ups[j]?=some ups[j]:=List.getElem?_eq_getElem hj
   have hld:=ld_one (P:=Try.prog) (ty:=3) hu1 ht rfl dC3
   have hBj:BrI n c sb (kk+(ups.take j).length) ((ups.take j).foldl (brOne n v i) s0):=hBr.row (v:=v) hsb hi.2 (fun o ho=>(hups o (List.mem_of_mem_take ho)).2)
   obtain⟨T1,M2,h1,h2,h3,h4,S2,us2,ds2,h5,h6,h7,h8⟩:=stepB (v:=v) (dr:=dr) (dl:=dl) (di:=di) (uc:=uc) hM1 X1 h0 hb1 hsb hBj hn60 hc hi (hups _ (List.getElem_mem hj)) (by rw[List.length_take];omega) hj hld
   rw[wrap_succ (by omega)] at h2
   refine⟨(S2,us2,ds2),T1,M2,h1,h2,h3,h4,?_,hF.step h6 h7 h8⟩
   rw[List.take_succ_eq_append_getElem hj,List.foldl_append]
   exact h5)
  (by
   rintro⟨S1,us1,ds1⟩ M1 ⟨X1,hM1,hb1,hF⟩
   exact rbx bB v ups.length ups.length i ua uc dr dl di (M:=M1) (decide_eq_false (by omega)))
  ups.length 0 (by omega) (s:=(S,us,ds)) (M:=M) ⟨X0,hM,hb,FrB.refl _ _ _⟩
 rw[List.take_length] at h4
 exact⟨M',h1,h2,h3,S',us',ds',h4,h5⟩
theorem rdo(eb eo dl dc v k bB C K G R U D n:Nat)(es:List E4)(ev S:Value)(s0:HB)(gone:List Bool)(rank:List Int)(up down:List (List Int))(us ds:List Value)(i:Int)(ua:Option Addr)(ul uc:Nat)(ups:List Int)(sb:HB)(c:Int)(kk:Nat){M M0:Mem}(hM:MemOk M)(X0:Ext M0 M)(h0:M0.next=G)(hb:PBld 53 73 42 22 46 ⟨⟨bB,C,K,G,R,U,D⟩,n,es,ev,S,⟨s0,gone,rank,up,down⟩,us,ds⟩ M)(hsb:HI n c sb)(hBr:BrI n c sb kk s0)(hn60:n≤60)(hc:0≤c∧2*c<9223372036854775808)(hi:0≤i∧i.toNat<sb.arcs.length)(hups: ∀o∈ups,0≤o∧o.toNat<sb.arcs.length)(hlen:sb.arcs.length+kk+ups.length<536870912)(hul:ups.length=ul)(hu:pInts ups (.slice ua ul uc) (hidx ((⟨bB,C,K,G,R,U,D⟩:BK).hideS S) M))(hv:v<n)(hln:ua.isNone=true→ul=0∧uc=0)(cc0:(decide (((k:Int))<((dl:Int))))=true)(hld0:aload Try.prog 3 ⟨eb,eo+((k:Int):Int).toNat*1,none⟩ M=some (i64 i))(hc1:(us)[0+((v:Int):Int).toNat*1]?=some (.slice ua ul uc)): ∃T1 M' S5 u6 d7,Rd Try.prog [] (q58.loopAt 0) Try.f58.ntmps (fr [(0,(pt bB 0)),(1,(i64 ((v:Int)))),(16,(sli eb eo dl dc)),(17,(i64 ((dl:Int)))),(18,(i64 ((k:Int))))]) M .normal T1 M'∧ [0,1,16,17,18].map T1.get= [some (pt bB 0),some (i64 ((v:Int))),some (sli eb eo dl dc),some (i64 ((dl:Int))),some (i64 (IntKind.wrap .i64 (((k:Int))+(1:Int))))]∧Ext M0 M'∧MemOk M'∧PBld 53 73 42 22 46 ⟨⟨bB,C,K,G,R,U,D⟩,n,es,ev,S5,⟨brRow n v ups s0 i,gone,rank,up,down⟩,u6,d7⟩ M'∧FrB (⟨bB,C,K,G,R,U,D⟩:BK) S M S5 M':=by
 have gbB:M.get bB=some ⟨[i64 n,ev,sli R 0 n (n+1),S,sli U 0 n (n+1),sli D 0 n (n+1),pt C 0,sli G 0 n (n+1)],53,8,0,true⟩:=hb.gB
 have gU:M.get U=some ⟨us,22,1,0,true⟩:=hb.gU
 obtain⟨M1,hL2,X3,hM4,S5,u6,d7,hb8,hF9⟩:=loopBi (v:=v) (i:=i) (ups:=ups) (dr:=(sli eb eo dl dc)) (dl:=(i64 ((dl:Int)))) (di:=(i64 ((k:Int)))) hM X0 h0 hb hsb hBr hn60 hc hi hups hlen hul hu
 have hraw:oR Try.prog [2] 60 Try.f58 (q58.loopAt 0) [(0,(pt bB 0)),(1,(i64 ((v:Int)))),(16,(sli eb eo dl dc)),(17,(i64 ((dl:Int)))),(18,(i64 ((k:Int))))] M [ttT 2,ttT 4,ttL 6 (i64 i),ttL 18 (sli U 0 n (n+1)),ttT 22,ttL 24 (.slice ua ul uc),ttT 26,.blk 29 [0,1,5,16,17,18,29,30,31] .normal (fr [(0,(pt bB 0)),(1,(i64 ((v:Int)))),(16,(sli eb eo dl dc)),(17,(i64 ((dl:Int)))),(18,(i64 ((k:Int))))]) M1] [0,1,16,17,18]=some (.normal,[some (pt bB 0),some (i64 ((v:Int))),some (sli eb eo dl dc),some (i64 ((dl:Int))),some (i64 (IntKind.wrap .i64 (((k:Int))+(1:Int))))],M1,[qT (decide (((k:Int))<((dl:Int)))),.q (.inb ((k:Int)) dl) (ansB true),qL 3 eb (eo+((k:Int):Int).toNat*1) M (i64 i),qL 29 bB 4 M (sli U 0 n (n+1)),.q (.inb ((v:Int)) n) (ansB true),qL 22 U (0+((v:Int):Int).toNat*1) M (.slice ua ul uc),.ln ua ul uc,.blk 2 (.loop (q58.loopAt 2)) Try.f58.ntmps [0,1,5,16,17,18,29,30,31] [some (pt bB 0),some (i64 ((v:Int))),some (i64 i),some (sli eb eo dl dc),some (i64 ((dl:Int))),some (i64 ((k:Int))),some (.slice ua ul uc),some (i64 ((ul:Int))),some (i64 0)] M .normal (fr [(0,(pt bB 0)),(1,(i64 ((v:Int)))),(16,(sli eb eo dl dc)),(17,(i64 ((dl:Int)))),(18,(i64 ((k:Int))))]) M1]):=by kernel_rfl
 obtain⟨T1,h1,h2⟩:=Rd.told noNumP mixedP (fun B=>sb1 (sbN B) 2 hL2) (fun _ h=>blksF_one h) hraw (hk (bT cc0) (hk (q_inb (by omega) (by simp at cc0;omega)) (hk (q_ld (hld0)) (hk (lC dC29 gbB rfl) (hk (q_inb (by omega) (by omega)) (hk (q_ld (aload_cell (a:=⟨U,0+((v:Int):Int).toNat*1,none⟩) dC22 gU hc1)) (hk (lN hln) (hk (q_blk rfl) hn))))))))
 exact⟨T1,M1,S5,u6,d7,h1,h2,X3,hM4,hb8,hF9⟩
theorem rdx(bB v dl k:Nat)(da:Option Addr)(dc:Nat){M:Mem}(cc0:(decide (((k:Int))<((dl:Int))))=false): ∃T1,Rd Try.prog [] (q58.loopAt 0) Try.f58.ntmps (fr [(0,(pt bB 0)),(1,(i64 ((v:Int)))),(16,(.slice da dl dc)),(17,(i64 ((dl:Int)))),(18,(i64 ((k:Int))))]) M (.exit 0) T1 M∧ [].map T1.get= []:=by
 have hraw:oR Try.prog [] 60 Try.f58 (q58.loopAt 0) [(0,(pt bB 0)),(1,(i64 ((v:Int)))),(16,(.slice da dl dc)),(17,(i64 ((dl:Int)))),(18,(i64 ((k:Int))))] M [ttF 2] []=some ((.exit 0),[],M,[qF (decide (((k:Int))<((dl:Int))))]):=by kernel_rfl
 obtain⟨T1,h1,h2⟩:=Rd.told noNumP mixedP (specs_none Try.prog) (fun _ _=>rfl) hraw (hk (bF cc0) hn)
 exact⟨T1,h1,h2⟩
theorem loopBo{bB C K G R U D n:Nat}{es:List E4}{ev S:Value}{sb s0:HB}{gone:List Bool}{rank:List Int}{up down:List (List Int)}{us ds:List Value}{v dc:Nat}{da:Option Addr}{ups downs:List Int}{M0 M:Mem}(hM:MemOk M)(X0:Ext M0 M)(h0:M0.next=G)(hb:PBld 53 73 42 22 46 ⟨⟨bB,C,K,G,R,U,D⟩,n,es,ev,S,⟨s0,gone,rank,up,down⟩,us,ds⟩ M){c:Int}{kk:Nat}(hsb:HI n c sb)(hBr:BrI n c sb kk s0)(hn60:n≤60)(hc:0≤c∧2*c<9223372036854775808)(hv:v<n)(hup:up[v]?=some ups)(hd: ∀i∈downs,0≤i∧i.toNat<sb.arcs.length)(hups: ∀o∈ups,0≤o∧o.toNat<sb.arcs.length)(hlen:sb.arcs.length+kk+(downs.length+1)*ups.length<536870912)(hdl:downs.length<1000000)(hdn:pInts downs (.slice da downs.length dc) (hidx ((⟨bB,C,K,G,R,U,D⟩:BK).hideS S) M)):
  ∃M',LoopR Try.prog [] (q58.loopAt 0) Try.f58.ntmps (fr [(0,pt bB 0),(1,i64 v),(16,.slice da downs.length dc),(17,i64 downs.length),(18,i64 ((0:Nat):Int))]) M (.exit 0) (fr []) M'∧Ext M0 M'∧MemOk M'∧ ∃S' us' ds',PBld 53 73 42 22 46 ⟨⟨bB,C,K,G,R,U,D⟩,n,es,ev,S',⟨brAll n v ups downs s0,gone,rank,up,down⟩,us',ds'⟩ M'∧FrB (⟨bB,C,K,G,R,U,D⟩:BK) S M S' M':=by
 obtain⟨⟨S',us',ds'⟩,M',h1,h2,h3,h4,h5⟩:=LoopR.for (P:=Try.prog) (GL:= []) (b:=q58.loopAt 0) (nt:=Try.f58.ntmps) (id:=0) (σ:=Value×List Value×List Value) (n:=downs.length) (Inv:=fun j σ M1=>Ext M0 M1∧MemOk M1∧PBld 53 73 42 22 46 ⟨⟨bB,C,K,G,R,U,D⟩,n,es,ev,σ.1,⟨(downs.take j).foldl (brRow n v ups) s0,gone,rank,up,down⟩,σ.2.1,σ.2.2⟩ M1∧FrB (⟨bB,C,K,G,R,U,D⟩:BK) S M σ.1 M1)
  (F:=fun j _=> [(0,pt bB 0),(1,i64 v),(16,.slice da downs.length dc),(17,i64 downs.length),(18,i64 ((j:Nat):Int))])
  (O:=fun _=> [])
  (by
   rintro j ⟨S1,us1,ds1⟩ M1 hj ⟨X1,hM1,hb1,hF⟩
   simp only at hb1 hF
   have hd1:pInts downs (.slice da downs.length dc) M1:=hx_out (R:=pInts) (AP.ext (R:=pInts) hF.hids hdn)
   obtain⟨eb,eo,rfl,_⟩:=form_pos hd1 (by omega)
   have ht:downs[j]?=some downs[j]:=List.getElem?_eq_getElem hj
   have hld:=ld_one (P:=Try.prog) (ty:=3) hd1 ht rfl dC3
   have hBj:BrI n c sb (kk+(downs.take j).length*ups.length) ((downs.take j).foldl (brRow n v ups) s0):=hBr.all (v:=v) hsb (fun o ho=>(hd o (List.mem_of_mem_take ho)).2) (fun o ho=>(hups o ho).2)
   obtain⟨uv,hu1,hu2⟩:=hb1.up.2 v ups hup
   obtain⟨ua,uc,rfl⟩:=GRowsAt.form hu2
   have hmul:(downs.take j).length*ups.length≤downs.length*ups.length:=Nat.mul_le_mul_right _ (by rw[List.length_take];omega)
   have hmul2:(downs.length+1)*ups.length=downs.length*ups.length+ups.length:=Nat.succ_mul _ _
   obtain⟨T1,M2,S2,us2,ds2,h1,h2,h3,h4,h5,h6⟩:=rdo eb eo downs.length dc v j bB C K G R U D n es ev S1 _ gone rank up down us1 ds1 downs[j] ua ups.length uc ups sb c _ hM1 X1 h0 hb1 hsb hBj hn60 hc (hd _ (List.getElem_mem hj)) hups (by omega) rfl hu2 hv hu2.ln (decide_eq_true (by omega)) hld (by rw[Nat.zero_add,Nat.mul_one,Int.toNat_natCast];exact hu1)
   rw[wrap_succ (by omega)] at h2
   refine⟨(S2,us2,ds2),T1,M2,h1,h2,h3,h4,?_,hF.step h6.keep h6.a h6.next⟩
   rw[List.take_succ_eq_append_getElem hj,List.foldl_append]
   exact h5)
  (by
   rintro⟨S1,us1,ds1⟩ M1 ⟨X1,hM1,hb1,hF⟩
   exact rdx bB v downs.length downs.length da dc (M:=M1) (decide_eq_false (by omega)))
  downs.length 0 (by omega) (s:=(S,us,ds)) (M:=M) ⟨X0,hM,hb,FrB.refl _ _ _⟩
 rw[List.take_length] at h4
 exact⟨M',h1,h2,h3,S',us',ds',h4,h5⟩
theorem rK58:Try.f58.results= #[]:=by kernel_rfl
theorem hw58(v bB C K G R U D n:Nat)(es:List E4)(ev S:Value)(s0:HB)(gone:List Bool)(rank:List Int)(up down:List (List Int))(us ds:List Value)(da:Option Addr)(dc:Nat)(ups downs:List Int)(sb:HB)(c:Int)(kk:Nat){M M0:Mem}(hM:MemOk M)(X0:Ext M0 M)(h0:M0.next=G)(hb:PBld 53 73 42 22 46 ⟨⟨bB,C,K,G,R,U,D⟩,n,es,ev,S,⟨s0,gone,rank,up,down⟩,us,ds⟩ M)(hsb:HI n c sb)(hBr:BrI n c sb kk s0)(hn60:n≤60)(hc:0≤c∧2*c<9223372036854775808)(hv:v<n)(hup:up[v]?=some ups)(hd: ∀i∈downs,0≤i∧i.toNat<sb.arcs.length)(hups: ∀o∈ups,0≤o∧o.toNat<sb.arcs.length)(hlen:sb.arcs.length+kk+(downs.length+1)*ups.length<536870912)(hdl:downs.length<1000000)(hdn:pInts downs (.slice da downs.length dc) (hidx ((⟨bB,C,K,G,R,U,D⟩:BK).hideS S) M))(hln:da.isNone=true→downs.length=0∧dc=0)(hc0:(ds)[0+((v:Int):Int).toNat*1]?=some (.slice da downs.length dc)): ∃M',Ev Try.prog [] 58 [pt bB 0,i64 v] M (.tuple #[]) M'∧Ext M0 M'∧MemOk M'∧ ∃S' us' ds',PBld 53 73 42 22 46 ⟨⟨bB,C,K,G,R,U,D⟩,n,es,ev,S',⟨brAll n v ups downs s0,gone,rank,up,down⟩,us',ds'⟩ M'∧FrB (⟨bB,C,K,G,R,U,D⟩:BK) S M S' M':=by
 have gbB:M.get bB=some ⟨[i64 n,ev,sli R 0 n (n+1),S,sli U 0 n (n+1),sli D 0 n (n+1),pt C 0,sli G 0 n (n+1)],53,8,0,true⟩:=hb.gB
 have gD:M.get D=some ⟨ds,22,1,0,true⟩:=hb.gD
 obtain⟨M1,hL2,X3,hM4,S5,u6,d7,hb8,hF9⟩:=loopBo (v:=v) hM X0 h0 hb hsb hBr hn60 hc hv hup hd hups hlen hdl hdn
 have hraw:oU Try.prog [0] 60 Try.f58 q58 [pt bB 0,i64 v] M [ttL 9 (sli D 0 n (n+1)),ttT 13,ttL 15 (.slice da downs.length dc),ttT 17,.blk 20 [0,1,16,17,18] .normal (fr []) M1]=some (.normal,M1,[qL 29 bB 5 M (sli D 0 n (n+1)),.q (.inb ((v:Int)) n) (ansB true),qL 22 D (0+((v:Int):Int).toNat*1) M (.slice da downs.length dc),.ln da downs.length dc,.blk 0 (.loop (q58.loopAt 0)) Try.f58.ntmps [0,1,16,17,18] [some (pt bB 0),some (i64 ((v:Int))),some (.slice da downs.length dc),some (i64 ((downs.length:Int))),some (i64 0)] M .normal (fr []) M1]):=by kernel_rfl
 exact⟨M1,Ev.told_none noNumP mixedP Try.func58 q58_ok (by kernel_rfl) rK58 (fun B=>sb1 (sbN B) 0 hL2) (fun _ h=>blksF_one h) hraw (.inr rfl) (hk (lC dC29 gbB rfl) (hk (q_inb (by omega) (by omega)) (hk (q_ld (aload_cell (a:=⟨D,0+((v:Int):Int).toNat*1,none⟩) dC22 gD hc0)) (hk (lN hln) (hk (q_blk rfl) hn))))),X3,hM4,S5,u6,d7,hb8,hF9⟩
instance:InjV (fun v:Nat=> [i64 v]):=⟨fun{x y} h=>by simp only [i64,List.cons.injEq,Value.int.injEq,true_and,and_true] at h;omega⟩
def okBr(x:BSt)(v:Nat):Prop:=x.n≤60∧v<x.n∧(∃c,HI x.n c x.s.b∧0≤c∧2*c<9223372036854775808)∧x.s.b.arcs.length<300000000∧ ∃ups downs,x.s.up[v]?=some ups∧x.s.down[v]?=some downs∧ups.length≤300∧downs.length≤300∧(∀i∈downs,0≤i∧i.toNat<x.s.b.arcs.length)∧(∀o∈ups,0≤o∧o.toNat<x.s.b.arcs.length)
abbrev ob58:OB (BSt×Nat):=obB 53 73 42 22 46 (fun v:Nat=> [i64 ((v:Nat):Int)]) okBr (fun x v _ s=>s={x.s with b:=brAll x.n v ((x.s.up[v]?).getD []) ((x.s.down[v]?).getD []) x.s.b})
theorem con58{x:BSt×Nat}{lv:List Value}{M:Mem}(hM:MemOk M)(h:ob58.A x lv M)(hlo:ob58.lo x≤M.next): ∃v M',TO Try.prog 58 ob58 lv M v M':=by
 have hA:=h
 obtain⟨⟨⟨bB,C,K,G,R,U,D⟩,n,es,ev,S,⟨s0,gone,rank,up,down⟩,us,ds⟩,v⟩:=x
 obtain⟨rfl,hb,hn,hv,⟨c,hHI,hc0,hc1⟩,hl,ups,downs,hup,hdn,l1,l2,q1,q2⟩:=h
 simp only at hb hn hv hHI hl hup hdn q1 q2
 have X0:Ext (cut G M) M:=Ext.cut hlo
 obtain⟨dv,hd1,hd2⟩:=hb.down.2 v downs hdn
 obtain⟨da,dc,rfl⟩:=GRowsAt.form hd2
 have hmul:(downs.length+1)*ups.length≤301*300:=Nat.mul_le_mul (by omega) l1
 obtain⟨M',h1,h2,h3,S',us',ds',h4,h5⟩:=hw58 v bB C K G R U D n es ev S s0 gone rank up down us ds da dc ups downs s0 c 0 hM X0 rfl hb hHI (BrI.zero hc0 hHI) hn ⟨hc0,hc1⟩ hv hup q1 q2 (by omega) (by omega) hd2 hd2.ln (by rw[Nat.zero_add,Nat.mul_one,Int.toNat_natCast];exact hd1)
 refine⟨_,M',h1,_,hA,hlo,h2,h5.keep,S',us',ds',_,h4,h5.a,?_⟩
 simp only [hup,hdn,Option.getD_some]
end Go.Proofs.Ytdaglldahidmbaa
