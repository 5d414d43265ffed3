/-
  Package hier: each of its laws for every argument; no conditions. The last text states which.
-/
import Derived.Test.YtdaglldahidmbaaGAH7
import Derived.Test.YtdaglldahidmbaaGAHR0
set_option linter.unusedVariables false
set_option linter.unusedSimpArgs false
open Go Go.Am Go.Proofs
namespace Go.Proofs.Ytdaglldahidmbaa
set_option maxRecDepth 100000
theorem rK24:Try.f24.results= #[]:=by kernel_rfl
theorem hw24(v bB C K G R U D n:Nat)(es:List E4)(ev S:Value)(s0:HB)(gone:List Bool)(rank:List Int)(up down:List (List Int))(us ds:List Value){M M0:Mem}(hM:MemOk M)(X0:Ext M0 M)(h0:M0.next=G)(hb:PBld 53 73 42 22 46 ⟨⟨bB,C,K,G,R,U,D⟩,n,es,ev,S,⟨s0,gone,rank,up,down⟩,us,ds⟩ M)(hn60:n≤60)(hv:v<n)(hcl:s0.cur.length=n*n*5)(hgl:gone.length=n)(hul:v<us.length)(hdl:v<ds.length)(hok: ∀us ds,okBr ⟨⟨bB,C,K,G,R,U,D⟩,n,es,ev,S,⟨s0,gone.set v true,rank,up.set v (rowH n s0.cur gone .out v),down.set v (rowH n s0.cur (gone.set v true) .inn v)⟩,us,ds⟩ v)(hof0:0+((v:Int):Int).toNat*1+1≤(us).length)(hof1:0+((v:Int):Int).toNat*1+1≤((gone.map Value.bool)).length)(hof2:0+((v:Int):Int).toNat*1+1≤(ds).length): ∃M',Ev Try.prog [] 24 [pt bB 0,i64 v] M (.tuple #[]) M'∧Ext M0 M'∧MemOk M'∧ ∃S' us' ds',PBld 53 73 42 22 46 ⟨⟨bB,C,K,G,R,U,D⟩,n,es,ev,S',⟨brAll n v (((up.set v (rowH n s0.cur gone .out v))[v]?).getD []) (((down.set v (rowH n s0.cur (gone.set v true) .inn v))[v]?).getD []) s0,gone.set v true,rank,up.set v (rowH n s0.cur gone .out v),down.set v (rowH n s0.cur (gone.set v true) .inn v)⟩,us',ds'⟩ M'∧FrB (⟨bB,C,K,G,R,U,D⟩:BK) S M S' M':=by
 have gbB:M.get bB=some ⟨[i64 n,ev,sli R 0 n (n+1),S,sli U 0 n (n+1),sli D 0 n (n+1),pt C 0,sli G 0 n (n+1)],53,8,0,true⟩:=hb.gB
 have gC:M.get C=some ⟨[i64 n,sli K 0 (n*n*5) (n*n*5+1),.func (.func 46) ⟨[pt bB 0]⟩ ⟨[]⟩],73,3,0,true⟩:=hb.gC
 have gK:M.get K=some ⟨s0.cur.map i64,3,1,0,true⟩:=hb.gK
 have gG:M.get G=some ⟨gone.map Value.bool,4,1,0,true⟩:=hb.gG
 have gR:M.get R=some ⟨rank.map i64,3,1,0,true⟩:=hb.gR
 have gU:M.get U=some ⟨us,22,1,0,true⟩:=hb.gU
 have gD:M.get D=some ⟨ds,22,1,0,true⟩:=hb.gD
 have nG:M0.next≤G:=by rw[h0];exact hb.lo G (by simp [BK.ids])
 have nU:M0.next≤U:=by rw[h0];exact hb.lo U (by simp [BK.ids])
 have nD:M0.next≤D:=by rw[h0];exact hb.lo D (by simp [BK.ids])
 have hnd:([bB,C,K,G,R,U,D]:List Nat).Nodup:=hb.nd
 obtain⟨dbBC,dbBK,dbBG,dbBR,dbBU,dbBD,dCK,dCG,dCR,dCU,dCD,dKG,dKR,dKU,dKD,dGR,dGU,dGD,dRU,dRD,dUD⟩:=nd7 hnd
 have hA0:AccC 42 7 M0 [bB,C,K,G,R,U,D] s0.arcs.length ((s0.arcs.map aRow).flatten) S M:=hb.acc.acc (Nat.le_of_eq h0)
 obtain⟨R1,eR2⟩: ∃m:Mem,m=Mem.mk M.blks M.next M.hide []:=⟨_,rfl⟩
 have X3:Ext (Mem.mk M0.blks M0.next M0.hide []) R1:=by rw[eR2];exact Ext.aside (X0)
 have lg4:R1.log= []:=by rw[eR2]
 have nxR1:R1.next=M.next:=by rw[eR2]
 have hM5:MemOk R1:=by rw[eR2];exact MemOk.log hM
 have ltbBM:bB<M.next:=by have h:=Mem.lt_of_get gbB;exact h
 have g6:R1.get bB=some ⟨[i64 ((n:Int)),ev,sli R 0 n (n+1),S,sli U 0 n (n+1),sli D 0 n (n+1),pt C 0,sli G 0 n (n+1)],53,8,0,true⟩:=by rw[eR2];exact gbB
 have g7:R1.get C=some ⟨[i64 ((n:Int)),sli K 0 (n*n*5) (n*n*5+1),.func (.func 46) ⟨[pt bB 0]⟩ ⟨[]⟩],73,3,0,true⟩:=by rw[eR2];exact gC
 have g8:R1.get K=some ⟨s0.cur.map i64,3,1,0,true⟩:=by rw[eR2];exact gK
 have ltGM:G<M.next:=by have h:=Mem.lt_of_get gG;exact h
 have g9:R1.get G=some ⟨gone.map Value.bool,4,1,0,true⟩:=by rw[eR2];exact gG
 have g10:R1.get R=some ⟨rank.map i64,3,1,0,true⟩:=by rw[eR2];exact gR
 have ltUM:U<M.next:=by have h:=Mem.lt_of_get gU;exact h
 have g11:R1.get U=some ⟨us,22,1,0,true⟩:=by rw[eR2];exact gU
 have ltDM:D<M.next:=by have h:=Mem.lt_of_get gD;exact h
 have g12:R1.get D=some ⟨ds,22,1,0,true⟩:=by rw[eR2];exact gD
 have A13:=hA0.same (M':=R1) (fun id b h=>by rw[eR2];exact h)
 have nxtR1:=congrArg Mem.next eR2
 dsimp only at nxtR1
 obtain⟨w17,N18,M19,p20,l21,e22,E23,hM24,F25⟩:=call_fc (x:=((n,s0.cur,gone),Go.Am.Way.out,v)) hM5 con55 (⟨⟨_,_,_,rfl,⟨bB,C,G,n+1,i64 ((n:Int)),ev,sli R 0 n (n+1),S,sli U 0 n (n+1),sli D 0 n (n+1),rfl,g6,⟨C,K,n*n*5+1,.func (.func 46) ⟨[pt bB 0]⟩ ⟨[]⟩,rfl,by rw[hcl];exact g7,g8⟩,g9⟩,rfl,rfl⟩,hn60,hcl,hv,hgl⟩)
 have nx26:=E23.next
 have A27:=A13.ext E23
 have g28:=E23.old g6
 have g29:=E23.old g7
 have g30:=E23.old g8
 have g31:=E23.old g9
 have g32:=E23.old g10
 have g33:=E23.old g11
 have g34:=E23.old g12
 have G16:pInts (rowH n s0.cur gone .out v) w17 (hidx [(0,R1.next)] M19):=hx_of F25
 obtain⟨a14,c15,ew17⟩:=GRowsAt.form G16
 subst ew17
 have lg35:M19.log= []:=by rw[←e22];exact lg4
 have X36:=X3.trans E23
 obtain⟨M37,q38,g39,kp40,X41,hM42,nx43⟩:=store_t (o:=0+((v:Int):Int).toNat*1) (v:=(.slice a14 (rowH n s0.cur gone .out v).length c15)) (new:=splice us (0+((v:Int):Int).toNat*1) [.slice a14 (rowH n s0.cur gone .out v).length c15]) X36 nU hM24 dS22 g33 rfl rfl (Nat.zero_le _) hof0 rfl
 replace g39:M37.get U=some ⟨splice us (0+((v:Int):Int).toNat*1) [.slice a14 (rowH n s0.cur gone .out v).length c15],22,1,0,true⟩:=g39
 have F44:=hx_keep (R:=pInts) G16 (fun id h _=>kp40 id h) (by intro id hh;simp only [hidden_con] at hh;omega)
 have A45:=A27.keep (by simp) (fun id h _=>kp40 id h)
 have g46:=(kp40 _ dbBU).trans g28
 have g47:=(kp40 _ dCU).trans g29
 have g48:=(kp40 _ dKU).trans g30
 have g49:=(kp40 _ dGU).trans g31
 have g50:=(kp40 _ dRU).trans g32
 have g51:=(kp40 _ (Ne.symm dUD)).trans g34
 have lg52:M37.log= [U]:=by rw[nx43,lg35]
 have nxsM37:=astore_next q38
 rw[splice_at (by first|exact hul|exact hdl)] at g39
 obtain⟨M53,ef54⟩: ∃m:Mem,m=(Mem.mk M37.blks M37.next M37.hide (M37.log++M.log)):=⟨_,rfl⟩
 have X55:Ext M0 M53:=by rw[ef54];exact Ext.join (X0) (X41)
 have hM56:MemOk M53:=by rw[ef54];exact hM42
 have g57:M53.get bB=some ⟨[i64 ((n:Int)),ev,sli R 0 n (n+1),S,sli U 0 n (n+1),sli D 0 n (n+1),pt C 0,sli G 0 n (n+1)],53,8,0,true⟩:=by rw[ef54];exact g46
 have g58:M53.get C=some ⟨[i64 ((n:Int)),sli K 0 (n*n*5) (n*n*5+1),.func (.func 46) ⟨[pt bB 0]⟩ ⟨[]⟩],73,3,0,true⟩:=by rw[ef54];exact g47
 have g59:M53.get K=some ⟨s0.cur.map i64,3,1,0,true⟩:=by rw[ef54];exact g48
 have g60:M53.get G=some ⟨gone.map Value.bool,4,1,0,true⟩:=by rw[ef54];exact g49
 have g61:M53.get R=some ⟨rank.map i64,3,1,0,true⟩:=by rw[ef54];exact g50
 have g62:M53.get U=some ⟨us.set v (.slice a14 (rowH n s0.cur gone .out v).length c15),22,1,0,true⟩:=by rw[ef54];exact g39
 have g63:M53.get D=some ⟨ds,22,1,0,true⟩:=by rw[ef54];exact g51
 have A64:=A45.same (M':=M53) (fun id b h=>by rw[ef54];exact h)
 have F65:=hx_still (R:=pInts) (M':=M53) F44 (fun id b h=>by rw[ef54];exact h)
 have nxtM53:=congrArg Mem.next ef54
 dsimp only at nxtM53
 obtain⟨M66,q67,g68,kp69,X70,hM71,nx72⟩:=store_t (o:=0+((v:Int):Int).toNat*1) (v:=(.bool true)) (new:=splice (gone.map Value.bool) (0+((v:Int):Int).toNat*1) [.bool true]) X55 nG hM56 dS4 g60 rfl rfl (Nat.zero_le _) hof1 rfl
 replace g68:M66.get G=some ⟨splice (gone.map Value.bool) (0+((v:Int):Int).toNat*1) [.bool true],4,1,0,true⟩:=g68
 have F73:=hx_keep (R:=pInts) F65 (fun id h _=>kp69 id h) (by intro id hh;simp only [hidden_con] at hh;omega)
 have A74:=A64.keep (by simp) (fun id h _=>kp69 id h)
 have g75:=(kp69 _ dbBG).trans g57
 have g76:=(kp69 _ dCG).trans g58
 have g77:=(kp69 _ dKG).trans g59
 have g78:=(kp69 _ (Ne.symm dGR)).trans g61
 have g79:=(kp69 _ (Ne.symm dGU)).trans g62
 have g80:=(kp69 _ (Ne.symm dGD)).trans g63
 have nxsM66:=astore_next q67
 rw[gone_at (by rw[hgl];exact hv)] at g68
 obtain⟨R81,eR82⟩: ∃m:Mem,m=Mem.mk M66.blks M66.next M66.hide []:=⟨_,rfl⟩
 have X83:Ext (Mem.mk M0.blks M0.next M0.hide []) R81:=by rw[eR82];exact Ext.aside (X70)
 have lg84:R81.log= []:=by rw[eR82]
 have nxR81:R81.next=M66.next:=by rw[eR82]
 have hM85:MemOk R81:=by rw[eR82];exact MemOk.log hM71
 have ltbBM66:bB<M66.next:=by have h:=Mem.lt_of_get g75;exact h
 have g86:R81.get bB=some ⟨[i64 ((n:Int)),ev,sli R 0 n (n+1),S,sli U 0 n (n+1),sli D 0 n (n+1),pt C 0,sli G 0 n (n+1)],53,8,0,true⟩:=by rw[eR82];exact g75
 have g87:R81.get C=some ⟨[i64 ((n:Int)),sli K 0 (n*n*5) (n*n*5+1),.func (.func 46) ⟨[pt bB 0]⟩ ⟨[]⟩],73,3,0,true⟩:=by rw[eR82];exact g76
 have g88:R81.get K=some ⟨s0.cur.map i64,3,1,0,true⟩:=by rw[eR82];exact g77
 have g89:R81.get G=some ⟨(gone.set v true).map Value.bool,4,1,0,true⟩:=by rw[eR82];exact g68
 have g90:R81.get R=some ⟨rank.map i64,3,1,0,true⟩:=by rw[eR82];exact g78
 have g91:R81.get U=some ⟨us.set v (.slice a14 (rowH n s0.cur gone .out v).length c15),22,1,0,true⟩:=by rw[eR82];exact g79
 have ltDM66:D<M66.next:=by have h:=Mem.lt_of_get g80;exact h
 have g92:R81.get D=some ⟨ds,22,1,0,true⟩:=by rw[eR82];exact g80
 have A93:=A74.same (M':=R81) (fun id b h=>by rw[eR82];exact h)
 have F94:=hx_still (R:=pInts) (M':=R81) F73 (fun id b h=>by rw[eR82];exact h)
 have nxtR81:=congrArg Mem.next eR82
 dsimp only at nxtR81
 obtain⟨w98,N99,M100,p101,l102,e103,E104,hM105,F106⟩:=call_fc (x:=((n,s0.cur,(gone.set v true)),Go.Am.Way.inn,v)) hM85 con55 (⟨⟨_,_,_,rfl,⟨bB,C,G,n+1,i64 ((n:Int)),ev,sli R 0 n (n+1),S,sli U 0 n (n+1),sli D 0 n (n+1),rfl,g86,⟨C,K,n*n*5+1,.func (.func 46) ⟨[pt bB 0]⟩ ⟨[]⟩,rfl,by rw[hcl];exact g87,g88⟩,g89⟩,rfl,rfl⟩,hn60,hcl,hv,by rw[List.length_set];exact hgl⟩)
 have nx107:=E104.next
 have F108:=hx_ext (R:=pInts) F94 E104
 have A109:=A93.ext E104
 have g110:=E104.old g86
 have g111:=E104.old g87
 have g112:=E104.old g88
 have g113:=E104.old g89
 have g114:=E104.old g90
 have g115:=E104.old g91
 have g116:=E104.old g92
 have G97:pInts (rowH n s0.cur (gone.set v true) .inn v) w98 (hidx [(0,R81.next)] M100):=hx_of F106
 obtain⟨a95,c96,ew98⟩:=GRowsAt.form G97
 subst ew98
 have lg117:M100.log= []:=by rw[←e103];exact lg84
 have X118:=X83.trans E104
 obtain⟨M119,q120,g121,kp122,X123,hM124,nx125⟩:=store_t (o:=0+((v:Int):Int).toNat*1) (v:=(.slice a95 (rowH n s0.cur (gone.set v true) .inn v).length c96)) (new:=splice ds (0+((v:Int):Int).toNat*1) [.slice a95 (rowH n s0.cur (gone.set v true) .inn v).length c96]) X118 nD hM105 dS22 g116 rfl rfl (Nat.zero_le _) hof2 rfl
 replace g121:M119.get D=some ⟨splice ds (0+((v:Int):Int).toNat*1) [.slice a95 (rowH n s0.cur (gone.set v true) .inn v).length c96],22,1,0,true⟩:=g121
 have F126:=hx_keep (R:=pInts) F108 (fun id h _=>kp122 id h) (by intro id hh;simp only [hidden_con] at hh;omega)
 have F127:=hx_keep (R:=pInts) G97 (fun id h _=>kp122 id h) (by intro id hh;simp only [hidden_con] at hh;omega)
 have A128:=A109.keep (by simp) (fun id h _=>kp122 id h)
 have g129:=(kp122 _ dbBD).trans g110
 have g130:=(kp122 _ dCD).trans g111
 have g131:=(kp122 _ dKD).trans g112
 have g132:=(kp122 _ dGD).trans g113
 have g133:=(kp122 _ dRD).trans g114
 have g134:=(kp122 _ dUD).trans g115
 have lg135:M119.log= [D]:=by rw[nx125,lg117]
 have nxsM119:=astore_next q120
 rw[splice_at (by first|exact hul|exact hdl)] at g121
 obtain⟨M136,ef137⟩: ∃m:Mem,m=(Mem.mk M119.blks M119.next M119.hide (M119.log++M66.log)):=⟨_,rfl⟩
 have X138:Ext M0 M136:=by rw[ef137];exact Ext.join (X70) (X123)
 have hM139:MemOk M136:=by rw[ef137];exact hM124
 have g140:M136.get bB=some ⟨[i64 ((n:Int)),ev,sli R 0 n (n+1),S,sli U 0 n (n+1),sli D 0 n (n+1),pt C 0,sli G 0 n (n+1)],53,8,0,true⟩:=by rw[ef137];exact g129
 have g141:M136.get C=some ⟨[i64 ((n:Int)),sli K 0 (n*n*5) (n*n*5+1),.func (.func 46) ⟨[pt bB 0]⟩ ⟨[]⟩],73,3,0,true⟩:=by rw[ef137];exact g130
 have g142:M136.get K=some ⟨s0.cur.map i64,3,1,0,true⟩:=by rw[ef137];exact g131
 have g143:M136.get G=some ⟨(gone.set v true).map Value.bool,4,1,0,true⟩:=by rw[ef137];exact g132
 have g144:M136.get R=some ⟨rank.map i64,3,1,0,true⟩:=by rw[ef137];exact g133
 have g145:M136.get U=some ⟨us.set v (.slice a14 (rowH n s0.cur gone .out v).length c15),22,1,0,true⟩:=by rw[ef137];exact g134
 have g146:M136.get D=some ⟨ds.set v (.slice a95 (rowH n s0.cur (gone.set v true) .inn v).length c96),22,1,0,true⟩:=by rw[ef137];exact g121
 have A147:=A128.same (M':=M136) (fun id b h=>by rw[ef137];exact h)
 have F148:=hx_still (R:=pInts) (M':=M136) F126 (fun id b h=>by rw[ef137];exact h)
 have F149:=hx_still (R:=pInts) (M':=M136) F127 (fun id b h=>by rw[ef137];exact h)
 have nxtM136:=congrArg Mem.next ef137
 dsimp only at nxtM136
 have hkp: ∀id k,M.get id=some k→ ¬(id=(⟨bB,C,K,G,R,U,D⟩:BK).a S∨id∈ [bB,C,K,G,R,U,D])→M136.get id=some k:=fun id k g hown=>by
  have hi0:id∉ [bB,C,K,G,R,U,D]:=fun e=>hown (.inr e)
  simp only [List.mem_cons,List.not_mem_nil,or_false,not_or] at hi0
  obtain⟨h_bB,h_C,h_K,h_G,h_R,h_U,h_D⟩:=hi0
  have g:R1.get id=some k:=by rw[eR2];exact g
  have g:=E23.old g
  have g:=((fun id h _=>kp40 id h) id h_U (Mem.lt_of_get g)).trans g
  have g:M53.get id=some k:=by rw[ef54];exact g
  have g:=((fun id h _=>kp69 id h) id h_G (Mem.lt_of_get g)).trans g
  have g:R81.get id=some k:=by rw[eR82];exact g
  have g:=E104.old g
  have g:=((fun id h _=>kp122 id h) id h_D (Mem.lt_of_get g)).trans g
  have g:M136.get id=some k:=by rw[ef137];exact g
  exact g
 have hlt:=hb.own_lt
 have hUn:pInts (rowH n s0.cur gone .out v) (.slice a14 (rowH n s0.cur gone .out v).length c15) (hidx ((⟨bB,C,K,G,R,U,D⟩:BK).hideS S) M136):=new_hid (R:=pInts) hlt (by omega) F148
 have hDn:pInts (rowH n s0.cur (gone.set v true) .inn v) (.slice a95 (rowH n s0.cur (gone.set v true) .inn v).length c96) (hidx ((⟨bB,C,K,G,R,U,D⟩:BK).hideS S) M136):=new_hid (R:=pInts) hlt (by omega) F149
 have hb2:PBld 53 73 42 22 46 ⟨⟨bB,C,K,G,R,U,D⟩,n,es,ev,S,⟨s0,gone.set v true,rank,up.set v (rowH n s0.cur gone .out v),down.set v (rowH n s0.cur (gone.set v true) .inn v)⟩,us.set v (.slice a14 (rowH n s0.cur gone .out v).length c15),ds.set v (.slice a95 (rowH n s0.cur (gone.set v true) .inn v).length c96)⟩ M136:=PBld.next (x:=⟨⟨bB,C,K,G,R,U,D⟩,n,es,ev,S,⟨s0,gone,rank,up,down⟩,us,ds⟩) (s:=⟨s0,gone.set v true,rank,up.set v (rowH n s0.cur gone .out v),down.set v (rowH n s0.cur (gone.set v true) .inn v)⟩) hb hkp (.inl rfl) g140 g141 g142 g143 g144 g145 g146 (ArcsAt.of_acc (A147.less (fun x hx=>hx)) rfl rfl (Nat.le_of_eq h0.symm)) (RowsIn.set (hb.up.ext (hids_keep (x:=⟨⟨bB,C,K,G,R,U,D⟩,n,es,ev,S,⟨s0,gone,rank,up,down⟩,us,ds⟩) hkp (.inl rfl))) hUn) (RowsIn.set (hb.down.ext (hids_keep (x:=⟨⟨bB,C,K,G,R,U,D⟩,n,es,ev,S,⟨s0,gone,rank,up,down⟩,us,ds⟩) hkp (.inl rfl))) hDn)
 obtain⟨t155,w156,M157,hc158,X159,hM160,nx161,kp162,hR163⟩:=call_ob (P:=Try.prog) (o:=ob58) (f:=58) (x:=(⟨⟨bB,C,K,G,R,U,D⟩,n,es,ev,S,⟨s0,gone.set v true,rank,up.set v (rowH n s0.cur gone .out v),down.set v (rowH n s0.cur (gone.set v true) .inn v)⟩,us.set v (.slice a14 (rowH n s0.cur gone .out v).length c15),ds.set v (.slice a95 (rowH n s0.cur (gone.set v true) .inn v).length c96)⟩,v)) (l:= [pt bB 0,i64 ((v:Int))]) hM139 X138 (nG) (Nat.le_of_lt (Mem.lt_of_get g143)) (⟨rfl,hb2,hok _ _⟩) con58
 obtain⟨S150,u151,d152,_,hb153,hS154,rfl⟩:=hR163
 have hraw:oU Try.prog [] 60 Try.f24 q24 [pt bB 0,i64 v] M [ttL 9 (sli U 0 n (n+1)),ttV 17 (.slice a14 (rowH n s0.cur gone .out v).length c15) M19,ttT 19,ttS 21 M37,ttL 29 (sli G 0 n (n+1)),ttT 33,ttS 35 M66,ttL 45 (sli D 0 n (n+1)),ttV 53 (.slice a95 (rowH n s0.cur (gone.set v true) .inn v).length c96) M100,ttT 55,ttS 57 M119,.at 63 ((bif t155 then 1 else 2),.val w156,M157)]=some (.normal,M157,[qL 29 bB 4 (Mem.mk M.blks M.next M.hide []) (sli U 0 n (n+1)),qT (Nat.blt bB M.next),qC 55 [pt bB 0,.func (.func 56) ⟨[]⟩ ⟨[]⟩,i64 ((v:Int))] (Mem.mk M.blks M.next M.hide []) (.slice a14 (rowH n s0.cur gone .out v).length c15) M19,.q (.inb ((v:Int)) n) (ansB true),qS 22 U (0+((v:Int):Int).toNat*1) (.slice a14 (rowH n s0.cur gone .out v).length c15) (Mem.mk M19.blks M19.next M.hide M19.log) M37,qT (apartN [bB] M37.log),qL 35 bB 7 (Mem.mk M37.blks M37.next M.hide (M37.log++M.log)) (sli G 0 n (n+1)),.q (.inb ((v:Int)) n) (ansB true),qS 4 G (0+((v:Int):Int).toNat*1) (.bool true) (Mem.mk M37.blks M37.next M.hide (M37.log++M.log)) M66,qL 29 bB 5 (Mem.mk M66.blks M66.next M66.hide []) (sli D 0 n (n+1)),qT (Nat.blt bB M66.next),qC 55 [pt bB 0,.func (.func 57) ⟨[]⟩ ⟨[]⟩,i64 ((v:Int))] (Mem.mk M66.blks M66.next M66.hide []) (.slice a95 (rowH n s0.cur (gone.set v true) .inn v).length c96) M100,.q (.inb ((v:Int)) n) (ansB true),qS 22 D (0+((v:Int):Int).toNat*1) (.slice a95 (rowH n s0.cur (gone.set v true) .inn v).length c96) (Mem.mk M100.blks M100.next M66.hide M100.log) M119,qT (apartN [bB] M119.log),.cl 58 [pt bB 0,i64 ((v:Int))] (Mem.mk M119.blks M119.next M66.hide (M119.log++M66.log)) ((bif t155 then 1 else 2),.val w156,M157)]):=by cases t155<;>kernel_rfl
 have rw0:Mem.mk M.blks M.next M.hide []=R1:=eR2.symm
 have rw1:Mem.mk M19.blks M19.next M.hide M19.log=M19:=by rw[(show M.hide=M19.hide from((X0).hide.trans (X36).hide.symm))]
 have rw3:(Mem.mk M37.blks M37.next M.hide (M37.log++M.log))=(Mem.mk M37.blks M37.next M37.hide (M37.log++M.log)):=by rw[(show M.hide=M37.hide from((X0).hide.trans (X41).hide.symm))]
 have rw4:(Mem.mk M37.blks M37.next M37.hide (M37.log++M.log))=M53:=ef54.symm
 have rw5:Mem.mk M66.blks M66.next M66.hide []=R81:=eR82.symm
 have rw6:Mem.mk M100.blks M100.next M66.hide M100.log=M100:=by rw[(show M66.hide=M100.hide from((X70).hide.trans (X118).hide.symm))]
 have rw8:(Mem.mk M119.blks M119.next M66.hide (M119.log++M66.log))=(Mem.mk M119.blks M119.next M119.hide (M119.log++M66.log)):=by rw[(show M66.hide=M119.hide from((X70).hide.trans (X123).hide.symm))]
 have rw9:(Mem.mk M119.blks M119.next M119.hide (M119.log++M66.log))=M136:=ef137.symm
 try rw[rw0] at hraw
 try rw[rw1] at hraw
 try rw[rw3] at hraw
 try rw[rw4] at hraw
 try rw[rw5] at hraw
 try rw[rw6] at hraw
 try rw[rw8] at hraw
 try rw[rw9] at hraw
 have hF1:FrB (⟨bB,C,K,G,R,U,D⟩:BK) S M S M136:=⟨hkp,.inl rfl,by omega⟩
 exact⟨M157,Ev.told_none noNumP mixedP Try.func24 q24_ok (by kernel_rfl) rK24 (fun B=>sb0 (sbQ 55 Q55 (sbC 58 (TC.ok (Q:=(QOb (ob58))) _) (sbN _)))) (fun _ _=>rfl) hraw (.inr rfl) (hk (lC dC29 g6 rfl) (hk (q_lt ltbBM) (hk (q_call rfl p20 l21 e22) (hk (q_inb (by omega) (by omega)) (hk (q_st q38) (hk (q_apart (by rw[lg52];simp<;>omega)) (hk (lC dC35 g57 rfl) (hk (q_inb (by omega) (by omega)) (hk (q_st q67) (hk (lC dC29 g86 rfl) (hk (q_lt ltbBM66) (hk (q_call rfl p101 l102 e103) (hk (q_inb (by omega) (by omega)) (hk (q_st q120) (hk (q_apart (by rw[lg135];simp<;>omega)) (hk (hc158 _ rfl) hn)))))))))))))))),X159,hM160,S150,u151,d152,hb153,hF1.step kp162 hS154 nx161⟩
def okLe(x:BSt)(v:Nat):Prop:=x.n≤60∧v<x.n∧ ∃c k,HG x.n c k x.s∧0≤c∧2*c<9223372036854775808∧k<300000000
abbrev ob24:OB (BSt×Nat):=obB 53 73 42 22 46 (fun v:Nat=> [i64 ((v:Nat):Int)]) okLe (fun x v _ s=>s=leaveH x.n x.s v)
theorem con24{x:BSt×Nat}{lv:List Value}{M:Mem}(hM:MemOk M)(h:ob24.A x lv M)(hlo:ob24.lo x≤M.next): ∃v M',TO Try.prog 24 ob24 lv M v M':=by
 have hA:=h
 obtain⟨⟨⟨bB,C,K,G,R,U,D⟩,n,es,ev,S,⟨s0,gone,rank,up,down⟩,us,ds⟩,v⟩:=x
 obtain⟨rfl,hb,hn,hv,c,k,hG,hc0,hc1,hk⟩:=h
 simp only at hb hn hv hG
 have X0:Ext (cut G M) M:=Ext.cut hlo
 have hgl:gone.length=n:=hG.gone
 have hul:us.length=n:=hb.up.1.trans hG.up
 have hdl:ds.length=n:=hb.down.1.trans hG.down
 have hupl:up.length=n:=hG.up
 have hdnl:down.length=n:=hG.down
 have l1:(rowH n s0.cur gone .out v).length≤5*n:=rowTo_len n s0.cur gone .out v n
 have l2:(rowH n s0.cur (gone.set v true) .inn v).length≤5*n:=rowTo_len n s0.cur (gone.set v true) .inn v n
 have hr: ∀(g:List Bool) (w:Go.Am.Way),∀i∈rowH n s0.cur g w v,0≤i∧i.toNat<s0.arcs.length:=fun g w i hi=>by
  obtain⟨h0,a,_,_,e,_⟩:=hG.hi.row hv hi
  exact⟨h0,(List.getElem?_eq_some_iff.1 e).1⟩
 have eu:(up.set v (rowH n s0.cur gone .out v))[v]?=some (rowH n s0.cur gone .out v):=List.getElem?_set_self (by omega)
 have ed:(down.set v (rowH n s0.cur (gone.set v true) .inn v))[v]?=some (rowH n s0.cur (gone.set v true) .inn v):=List.getElem?_set_self (by omega)
 have hok: ∀us ds,okBr ⟨⟨bB,C,K,G,R,U,D⟩,n,es,ev,S,⟨s0,gone.set v true,rank,up.set v (rowH n s0.cur gone .out v),down.set v (rowH n s0.cur (gone.set v true) .inn v)⟩,us,ds⟩ v:=fun us ds=>⟨hn,hv,⟨c,hG.hi,hc0,hc1⟩,by have:=hG.len;show s0.arcs.length<_;simp only at this;omega,rowH n s0.cur gone .out v,rowH n s0.cur (gone.set v true) .inn v,eu,ed,by omega,by omega,hr _ .inn,hr _ .out⟩
 obtain⟨M',h1,h2,h3,S',us',ds',h4,h5⟩:=hw24 v bB C K G R U D n es ev S s0 gone rank up down us ds hM X0 rfl hb hn hv hG.hi.len hgl (by omega) (by omega) hok (by omega) (by rw[List.length_map];omega) (by omega)
 refine⟨_,M',h1,_,hA,hlo,h2,h5.keep,S',us',ds',_,h4,h5.a,?_⟩
 rw[eu,ed]
 rfl
theorem reg(v bB C K G R U D n:Nat)(es:List E4)(ev S:Value)(s0:HB)(gone:List Bool)(rank:List Int)(up down:List (List Int))(us ds:List Value)(gq:Bool){M:Mem}(hb:PBld 53 73 42 22 46 ⟨⟨bB,C,K,G,R,U,D⟩,n,es,ev,S,⟨s0,gone,rank,up,down⟩,us,ds⟩ M)(hn60:n≤60)(hcl:s0.cur.length=n*n*5)(hgl:gone.length=n)(hul:v<us.length)(hv:v<n)(cc0:(decide (((v:Int))<((n:Int))))=true)(cc1:(gq)=true)(hc0:((gone.map Value.bool))[0+((v:Int):Int).toNat*1]?=some (.bool gq)): ∃T1,Rd Try.prog [] (q25.loopAt 0) Try.f25.ntmps (fr [(0,(pt bB 0)),(7,(sli G 0 n (n+1))),(8,(i64 ((n:Int)))),(9,(i64 ((v:Int))))]) M .normal T1 M∧ [0,7,8,9].map T1.get= [some (pt bB 0),some (sli G 0 n (n+1)),some (i64 ((n:Int))),some (i64 (IntKind.wrap .i64 (((v:Int))+(1:Int))))]:=by
 have gG:M.get G=some ⟨gone.map Value.bool,4,1,0,true⟩:=hb.gG
 have hraw:oR Try.prog [] 60 Try.f25 (q25.loopAt 0) [(0,(pt bB 0)),(7,(sli G 0 n (n+1))),(8,(i64 ((n:Int)))),(9,(i64 ((v:Int))))] M [ttT 2,ttT 6,ttL 8 (.bool gq),ttF 17] [0,7,8,9]=some (.normal,[some (pt bB 0),some (sli G 0 n (n+1)),some (i64 ((n:Int))),some (i64 (IntKind.wrap .i64 (((v:Int))+(1:Int))))],M,[qT (decide (((v:Int))<((n:Int)))),.q (.inb ((v:Int)) n) (ansB true),qL 4 G (0+((v:Int):Int).toNat*1) M (.bool gq),qF (!(gq))]):=by kernel_rfl
 obtain⟨T1,h1,h2⟩:=Rd.told noNumP mixedP (specs_none Try.prog) (fun _ _=>rfl) hraw (hk (bT cc0) (hk (q_inb (by omega) (by omega)) (hk (q_ld (aload_cell (a:=⟨G,0+((v:Int):Int).toNat*1,none⟩) dC4 gG hc0)) (hk (bF (by rw[cc1];rfl)) hn))))
 exact⟨T1,h1,h2⟩
theorem reu(v bB C K G R U D n:Nat)(es:List E4)(ev S:Value)(s0:HB)(gone:List Bool)(rank:List Int)(up down:List (List Int))(us ds:List Value)(gq:Bool){M M0:Mem}(hM:MemOk M)(X0:Ext M0 M)(h0:M0.next=G)(hb:PBld 53 73 42 22 46 ⟨⟨bB,C,K,G,R,U,D⟩,n,es,ev,S,⟨s0,gone,rank,up,down⟩,us,ds⟩ M)(hn60:n≤60)(hcl:s0.cur.length=n*n*5)(hgl:gone.length=n)(hul:v<us.length)(hv:v<n)(cc0:(decide (((v:Int))<((n:Int))))=true)(cc1:(gq)=false)(hc0:((gone.map Value.bool))[0+((v:Int):Int).toNat*1]?=some (.bool gq))(hof1:0+((v:Int):Int).toNat*1+1≤(us).length): ∃T1 M',Rd Try.prog [] (q25.loopAt 0) Try.f25.ntmps (fr [(0,(pt bB 0)),(7,(sli G 0 n (n+1))),(8,(i64 ((n:Int)))),(9,(i64 ((v:Int))))]) M .normal T1 M'∧ [0,7,8,9].map T1.get= [some (pt bB 0),some (sli G 0 n (n+1)),some (i64 ((n:Int))),some (i64 (IntKind.wrap .i64 (((v:Int))+(1:Int))))]∧Ext M0 M'∧MemOk M'∧ ∃us2,PBld 53 73 42 22 46 ⟨⟨bB,C,K,G,R,U,D⟩,n,es,ev,S,⟨s0,gone,rank,up.set v (rowH n s0.cur gone .out v),down⟩,us2,ds⟩ M'∧FrB (⟨bB,C,K,G,R,U,D⟩:BK) S M S M':=by
 have gbB:M.get bB=some ⟨[i64 n,ev,sli R 0 n (n+1),S,sli U 0 n (n+1),sli D 0 n (n+1),pt C 0,sli G 0 n (n+1)],53,8,0,true⟩:=hb.gB
 have gC:M.get C=some ⟨[i64 n,sli K 0 (n*n*5) (n*n*5+1),.func (.func 46) ⟨[pt bB 0]⟩ ⟨[]⟩],73,3,0,true⟩:=hb.gC
 have gK:M.get K=some ⟨s0.cur.map i64,3,1,0,true⟩:=hb.gK
 have gG:M.get G=some ⟨gone.map Value.bool,4,1,0,true⟩:=hb.gG
 have gR:M.get R=some ⟨rank.map i64,3,1,0,true⟩:=hb.gR
 have gU:M.get U=some ⟨us,22,1,0,true⟩:=hb.gU
 have gD:M.get D=some ⟨ds,22,1,0,true⟩:=hb.gD
 have nU:M0.next≤U:=by rw[h0];exact hb.lo U (by simp [BK.ids])
 have hnd:([bB,C,K,G,R,U,D]:List Nat).Nodup:=hb.nd
 obtain⟨dbBC,dbBK,dbBG,dbBR,dbBU,dbBD,dCK,dCG,dCR,dCU,dCD,dKG,dKR,dKU,dKD,dGR,dGU,dGD,dRU,dRD,dUD⟩:=nd7 hnd
 have hA0:AccC 42 7 M0 [bB,C,K,G,R,U,D] s0.arcs.length ((s0.arcs.map aRow).flatten) S M:=hb.acc.acc (Nat.le_of_eq h0)
 obtain⟨R1,eR2⟩: ∃m:Mem,m=Mem.mk M.blks M.next M.hide []:=⟨_,rfl⟩
 have X3:Ext (Mem.mk M0.blks M0.next M0.hide []) R1:=by rw[eR2];exact Ext.aside (X0)
 have lg4:R1.log= []:=by rw[eR2]
 have nxR1:R1.next=M.next:=by rw[eR2]
 have hM5:MemOk R1:=by rw[eR2];exact MemOk.log hM
 have ltbBM:bB<M.next:=by have h:=Mem.lt_of_get gbB;exact h
 have g6:R1.get bB=some ⟨[i64 ((n:Int)),ev,sli R 0 n (n+1),S,sli U 0 n (n+1),sli D 0 n (n+1),pt C 0,sli G 0 n (n+1)],53,8,0,true⟩:=by rw[eR2];exact gbB
 have g7:R1.get C=some ⟨[i64 ((n:Int)),sli K 0 (n*n*5) (n*n*5+1),.func (.func 46) ⟨[pt bB 0]⟩ ⟨[]⟩],73,3,0,true⟩:=by rw[eR2];exact gC
 have g8:R1.get K=some ⟨s0.cur.map i64,3,1,0,true⟩:=by rw[eR2];exact gK
 have g9:R1.get G=some ⟨gone.map Value.bool,4,1,0,true⟩:=by rw[eR2];exact gG
 have g10:R1.get R=some ⟨rank.map i64,3,1,0,true⟩:=by rw[eR2];exact gR
 have ltUM:U<M.next:=by have h:=Mem.lt_of_get gU;exact h
 have g11:R1.get U=some ⟨us,22,1,0,true⟩:=by rw[eR2];exact gU
 have g12:R1.get D=some ⟨ds,22,1,0,true⟩:=by rw[eR2];exact gD
 have A13:=hA0.same (M':=R1) (fun id b h=>by rw[eR2];exact h)
 have nxtR1:=congrArg Mem.next eR2
 dsimp only at nxtR1
 obtain⟨w17,N18,M19,p20,l21,e22,E23,hM24,F25⟩:=call_fc (x:=((n,s0.cur,gone),Go.Am.Way.out,v)) hM5 con55 (⟨⟨_,_,_,rfl,⟨bB,C,G,n+1,i64 ((n:Int)),ev,sli R 0 n (n+1),S,sli U 0 n (n+1),sli D 0 n (n+1),rfl,g6,⟨C,K,n*n*5+1,.func (.func 46) ⟨[pt bB 0]⟩ ⟨[]⟩,rfl,by rw[hcl];exact g7,g8⟩,g9⟩,rfl,rfl⟩,hn60,hcl,hv,hgl⟩)
 have nx26:=E23.next
 have A27:=A13.ext E23
 have g28:=E23.old g6
 have g29:=E23.old g7
 have g30:=E23.old g8
 have g31:=E23.old g9
 have g32:=E23.old g10
 have g33:=E23.old g11
 have g34:=E23.old g12
 have G16:pInts (rowH n s0.cur gone .out v) w17 (hidx [(0,R1.next)] M19):=hx_of F25
 obtain⟨a14,c15,ew17⟩:=GRowsAt.form G16
 subst ew17
 have lg35:M19.log= []:=by rw[←e22];exact lg4
 have X36:=X3.trans E23
 obtain⟨M37,q38,g39,kp40,X41,hM42,nx43⟩:=store_t (o:=0+((v:Int):Int).toNat*1) (v:=(.slice a14 (rowH n s0.cur gone .out v).length c15)) (new:=splice us (0+((v:Int):Int).toNat*1) [.slice a14 (rowH n s0.cur gone .out v).length c15]) X36 nU hM24 dS22 g33 rfl rfl (Nat.zero_le _) hof1 rfl
 replace g39:M37.get U=some ⟨splice us (0+((v:Int):Int).toNat*1) [.slice a14 (rowH n s0.cur gone .out v).length c15],22,1,0,true⟩:=g39
 have F44:=hx_keep (R:=pInts) G16 (fun id h _=>kp40 id h) (by intro id hh;simp only [hidden_con] at hh;omega)
 have A45:=A27.keep (by simp) (fun id h _=>kp40 id h)
 have g46:=(kp40 _ dbBU).trans g28
 have g47:=(kp40 _ dCU).trans g29
 have g48:=(kp40 _ dKU).trans g30
 have g49:=(kp40 _ dGU).trans g31
 have g50:=(kp40 _ dRU).trans g32
 have g51:=(kp40 _ (Ne.symm dUD)).trans g34
 have lg52:M37.log= [U]:=by rw[nx43,lg35]
 have nxsM37:=astore_next q38
 rw[splice_at (by first|exact hul|exact hdl)] at g39
 obtain⟨M53,ef54⟩: ∃m:Mem,m=(Mem.mk M37.blks M37.next M37.hide (M37.log++M.log)):=⟨_,rfl⟩
 have X55:Ext M0 M53:=by rw[ef54];exact Ext.join (X0) (X41)
 have hM56:MemOk M53:=by rw[ef54];exact hM42
 have g57:M53.get bB=some ⟨[i64 ((n:Int)),ev,sli R 0 n (n+1),S,sli U 0 n (n+1),sli D 0 n (n+1),pt C 0,sli G 0 n (n+1)],53,8,0,true⟩:=by rw[ef54];exact g46
 have g58:M53.get C=some ⟨[i64 ((n:Int)),sli K 0 (n*n*5) (n*n*5+1),.func (.func 46) ⟨[pt bB 0]⟩ ⟨[]⟩],73,3,0,true⟩:=by rw[ef54];exact g47
 have g59:M53.get K=some ⟨s0.cur.map i64,3,1,0,true⟩:=by rw[ef54];exact g48
 have g60:M53.get G=some ⟨gone.map Value.bool,4,1,0,true⟩:=by rw[ef54];exact g49
 have g61:M53.get R=some ⟨rank.map i64,3,1,0,true⟩:=by rw[ef54];exact g50
 have g62:M53.get U=some ⟨us.set v (.slice a14 (rowH n s0.cur gone .out v).length c15),22,1,0,true⟩:=by rw[ef54];exact g39
 have g63:M53.get D=some ⟨ds,22,1,0,true⟩:=by rw[ef54];exact g51
 have A64:=A45.same (M':=M53) (fun id b h=>by rw[ef54];exact h)
 have F65:=hx_still (R:=pInts) (M':=M53) F44 (fun id b h=>by rw[ef54];exact h)
 have nxtM53:=congrArg Mem.next ef54
 dsimp only at nxtM53
 have hkp: ∀id k,M.get id=some k→ ¬(id=(⟨bB,C,K,G,R,U,D⟩:BK).a S∨id∈ [bB,C,K,G,R,U,D])→M53.get id=some k:=fun id k g hown=>by
  have hi0:id∉ [bB,C,K,G,R,U,D]:=fun e=>hown (.inr e)
  simp only [List.mem_cons,List.not_mem_nil,or_false,not_or] at hi0
  obtain⟨h_bB,h_C,h_K,h_G,h_R,h_U,h_D⟩:=hi0
  have g:R1.get id=some k:=by rw[eR2];exact g
  have g:=E23.old g
  have g:=((fun id h _=>kp40 id h) id h_U (Mem.lt_of_get g)).trans g
  have g:M53.get id=some k:=by rw[ef54];exact g
  exact g
 have hlt:=hb.own_lt
 have hUn:pInts (rowH n s0.cur gone .out v) (.slice a14 (rowH n s0.cur gone .out v).length c15) (hidx ((⟨bB,C,K,G,R,U,D⟩:BK).hideS S) M53):=new_hid (R:=pInts) hlt (by omega) F65
 have hb2:PBld 53 73 42 22 46 ⟨⟨bB,C,K,G,R,U,D⟩,n,es,ev,S,⟨s0,gone,rank,up.set v (rowH n s0.cur gone .out v),down⟩,us.set v (.slice a14 (rowH n s0.cur gone .out v).length c15),ds⟩ M53:=PBld.next (x:=⟨⟨bB,C,K,G,R,U,D⟩,n,es,ev,S,⟨s0,gone,rank,up,down⟩,us,ds⟩) (s:=⟨s0,gone,rank,up.set v (rowH n s0.cur gone .out v),down⟩) hb hkp (.inl rfl) g57 g58 g59 g60 g61 g62 g63 (ArcsAt.of_acc (A64.less (fun x hx=>hx)) rfl rfl (Nat.le_of_eq h0.symm)) (RowsIn.set (hb.up.ext (hids_keep (x:=⟨⟨bB,C,K,G,R,U,D⟩,n,es,ev,S,⟨s0,gone,rank,up,down⟩,us,ds⟩) hkp (.inl rfl))) hUn) (hb.down.ext (hids_keep (x:=⟨⟨bB,C,K,G,R,U,D⟩,n,es,ev,S,⟨s0,gone,rank,up,down⟩,us,ds⟩) hkp (.inl rfl)))
 have hF1:FrB (⟨bB,C,K,G,R,U,D⟩:BK) S M S M53:=⟨hkp,.inl rfl,by omega⟩
 have hraw:oR Try.prog [] 60 Try.f25 (q25.loopAt 0) [(0,(pt bB 0)),(7,(sli G 0 n (n+1))),(8,(i64 ((n:Int)))),(9,(i64 ((v:Int))))] M [ttT 2,ttT 6,ttL 8 (.bool gq),ttT 17,ttL 27 (sli U 0 n (n+1)),ttV 35 (.slice a14 (rowH n s0.cur gone .out v).length c15) M19,ttT 37,ttS 39 M37] [0,7,8,9]=some (.normal,[some (pt bB 0),some (sli G 0 n (n+1)),some (i64 ((n:Int))),some (i64 (IntKind.wrap .i64 (((v:Int))+(1:Int))))],Mem.mk M37.blks M37.next M.hide (M37.log++M.log),[qT (decide (((v:Int))<((n:Int)))),.q (.inb ((v:Int)) n) (ansB true),qL 4 G (0+((v:Int):Int).toNat*1) M (.bool gq),qT (!(gq)),qL 29 bB 4 (Mem.mk M.blks M.next M.hide []) (sli U 0 n (n+1)),qT (Nat.blt bB M.next),qC 55 [pt bB 0,.func (.func 56) ⟨[]⟩ ⟨[]⟩,i64 ((v:Int))] (Mem.mk M.blks M.next M.hide []) (.slice a14 (rowH n s0.cur gone .out v).length c15) M19,.q (.inb ((v:Int)) n) (ansB true),qS 22 U (0+((v:Int):Int).toNat*1) (.slice a14 (rowH n s0.cur gone .out v).length c15) (Mem.mk M19.blks M19.next M.hide M19.log) M37,qT (apartN [bB] M37.log)]):=by kernel_rfl
 have rw0:Mem.mk M.blks M.next M.hide []=R1:=eR2.symm
 have rw1:Mem.mk M19.blks M19.next M.hide M19.log=M19:=by rw[(show M.hide=M19.hide from((X0).hide.trans (X36).hide.symm))]
 have rw3:(Mem.mk M37.blks M37.next M.hide (M37.log++M.log))=(Mem.mk M37.blks M37.next M37.hide (M37.log++M.log)):=by rw[(show M.hide=M37.hide from((X0).hide.trans (X41).hide.symm))]
 have rw4:(Mem.mk M37.blks M37.next M37.hide (M37.log++M.log))=M53:=ef54.symm
 try rw[rw0] at hraw
 try rw[rw1] at hraw
 try rw[rw3] at hraw
 try rw[rw4] at hraw
 obtain⟨T1,h1,h2⟩:=Rd.told noNumP mixedP (fun B=>sb0 (sbQ 55 Q55 (sbN _))) (fun _ _=>rfl) hraw (hk (bT cc0) (hk (q_inb (by omega) (by omega)) (hk (q_ld (aload_cell (a:=⟨G,0+((v:Int):Int).toNat*1,none⟩) dC4 gG hc0)) (hk (bT (by rw[cc1];rfl)) (hk (lC dC29 g6 rfl) (hk (q_lt ltbBM) (hk (q_call rfl p20 l21 e22) (hk (q_inb (by omega) (by omega)) (hk (q_st q38) (hk (q_apart (by rw[lg52];simp<;>omega)) hn))))))))))
 exact⟨T1,M53,h1,h2,X55,hM56,_,hb2,hF1⟩
theorem rex(v bB C K G R U D n:Nat){M:Mem}(cc0:(decide (((v:Int))<((n:Int))))=false): ∃T1,Rd Try.prog [] (q25.loopAt 0) Try.f25.ntmps (fr [(0,(pt bB 0)),(7,(sli G 0 n (n+1))),(8,(i64 ((n:Int)))),(9,(i64 ((v:Int))))]) M (.exit 0) T1 M∧ [0].map T1.get= [some (pt bB 0)]:=by
 have hraw:oR Try.prog [] 60 Try.f25 (q25.loopAt 0) [(0,(pt bB 0)),(7,(sli G 0 n (n+1))),(8,(i64 ((n:Int)))),(9,(i64 ((v:Int))))] M [ttF 2] [0]=some ((.exit 0),[some (pt bB 0)],M,[qF (decide (((v:Int))<((n:Int))))]):=by kernel_rfl
 obtain⟨T1,h1,h2⟩:=Rd.told noNumP mixedP (specs_none Try.prog) (fun _ _=>rfl) hraw (hk (bF cc0) hn)
 exact⟨T1,h1,h2⟩
theorem endTo_b(n:Nat)(s:HSt)(i:Nat):(endTo n s i).b=s.b∧(endTo n s i).gone=s.gone∧(endTo n s i).rank=s.rank∧(endTo n s i).down=s.down∧(endTo n s i).up.length=s.up.length:=by
 induction i with
 |zero=>exact⟨rfl,rfl,rfl,rfl,rfl⟩
 |succ i ih=>
  unfold endTo
  cases goneAt (endTo n s i).gone i
  ·simpa using ih
  ·exact ih
theorem loopE{bB C K G R U D n:Nat}{es:List E4}{ev S:Value}{s:HSt}{us ds:List Value}{M0 M:Mem}(hM:MemOk M)(X0:Ext M0 M)(h0:M0.next=G)(hb:PBld 53 73 42 22 46 ⟨⟨bB,C,K,G,R,U,D⟩,n,es,ev,S,s,us,ds⟩ M)(hn60:n≤60)(hcl:s.b.cur.length=n*n*5)(hgl:s.gone.length=n)(hul:s.up.length=n):
  ∃M',LoopR Try.prog [] (q25.loopAt 0) Try.f25.ntmps (fr [(0,pt bB 0),(7,sli G 0 n (n+1)),(8,i64 n),(9,i64 ((0:Nat):Int))]) M (.exit 0) (fr [(0,pt bB 0)]) M'∧Ext M0 M'∧MemOk M'∧ ∃us',PBld 53 73 42 22 46 ⟨⟨bB,C,K,G,R,U,D⟩,n,es,ev,S,endTo n s n,us',ds⟩ M'∧FrB (⟨bB,C,K,G,R,U,D⟩:BK) S M S M':=by
 obtain⟨us',M',h1,h2,h3,h4,h5⟩:=LoopR.for (P:=Try.prog) (GL:= []) (b:=q25.loopAt 0) (nt:=Try.f25.ntmps) (id:=0) (σ:=List Value) (n:=n) (Inv:=fun i us1 M1=>Ext M0 M1∧MemOk M1∧PBld 53 73 42 22 46 ⟨⟨bB,C,K,G,R,U,D⟩,n,es,ev,S,endTo n s i,us1,ds⟩ M1∧FrB (⟨bB,C,K,G,R,U,D⟩:BK) S M S M1)
  (F:=fun i _=> [(0,pt bB 0),(7,sli G 0 n (n+1)),(8,i64 n),(9,i64 ((i:Nat):Int))])
  (O:=fun _=> [(0,pt bB 0)])
  (by
   rintro i us1 M1 hi ⟨X1,hM1,hb1,hF⟩
   obtain⟨e1,e2,e3,e4,e5⟩:=endTo_b n s i
   have hus:us1.length=n:=hb1.up.1.trans (e5.trans hul)
   have es1:endTo n s (i+1)=bif goneAt (endTo n s i).gone i then endTo n s i else{endTo n s i with up:=(endTo n s i).up.set i (rowH n (endTo n s i).b.cur (endTo n s i).gone .out i)}:=rfl
   have hcl1:(endTo n s i).b.cur.length=n*n*5:=by rw[e1];exact hcl
   have hgl1:(endTo n s i).gone.length=n:=by rw[e2];exact hgl
   generalize hE:endTo n s i=E at hb1 es1 hcl1 hgl1
   obtain⟨s0,gone,rank,up,down⟩:=E
   simp only at es1 hcl1 hgl1
   have hgi:gone[i]?=some (goneAt gone i):=by unfold goneAt;rw[List.getElem?_eq_getElem (by omega)];rfl
   have hgc:(gone.map Value.bool)[0+((i:Int):Int).toNat*1]?=some (.bool (goneAt gone i)):=by simp [hgi]
   cases hq:goneAt gone i with
   |true=>
    rw[hq] at hgc es1
    obtain⟨T1,h1,h2⟩:=reg i bB C K G R U D n es ev S s0 gone rank up down us1 ds true (M:=M1) hb1 hn60 hcl1 hgl1 (by omega) hi (decide_eq_true (by omega)) rfl hgc
    rw[wrap_succ (by omega)] at h2
    refine⟨us1,T1,M1,h1,h2,X1,hM1,?_,hF⟩
    rw[es1];exact hb1
   |false=>
    rw[hq] at hgc es1
    obtain⟨T1,M2,h1,h2,h3,h4,us2,h5,h6⟩:=reu i bB C K G R U D n es ev S s0 gone rank up down us1 ds false hM1 X1 h0 hb1 hn60 hcl1 hgl1 (by omega) hi (decide_eq_true (by omega)) rfl hgc (by omega)
    rw[wrap_succ (by omega)] at h2
    refine⟨us2,T1,M2,h1,h2,h3,h4,?_,hF.step h6.keep h6.a h6.next⟩
    rw[es1];exact h5)
  (by
   rintro us1 M1 ⟨X1,hM1,hb1,hF⟩
   exact rex n bB C K G R U D n (M:=M1) (decide_eq_false (by omega)))
  n 0 (by omega) (s:=us) (M:=M) ⟨X0,hM,hb,FrB.refl _ _ _⟩
 exact⟨M',h1,h2,h3,us',h4,h5⟩
theorem rK25:Try.f25.results= #[]:=by kernel_rfl
theorem hw25(bB C K G R U D n:Nat)(es:List E4)(ev S:Value)(s:HSt)(us ds:List Value){M M0:Mem}(hM:MemOk M)(X0:Ext M0 M)(h0:M0.next=G)(hb:PBld 53 73 42 22 46 ⟨⟨bB,C,K,G,R,U,D⟩,n,es,ev,S,s,us,ds⟩ M)(hn60:n≤60)(hcl:s.b.cur.length=n*n*5)(hgl:s.gone.length=n)(hul:s.up.length=n): ∃M',Ev Try.prog [] 25 [pt bB 0] M (.tuple #[]) M'∧Ext M0 M'∧MemOk M'∧ ∃us',PBld 53 73 42 22 46 ⟨⟨bB,C,K,G,R,U,D⟩,n,es,ev,S,endTo n s n,us',ds⟩ M'∧FrB (⟨bB,C,K,G,R,U,D⟩:BK) S M S M':=by
 have gbB:M.get bB=some ⟨[i64 n,ev,sli R 0 n (n+1),S,sli U 0 n (n+1),sli D 0 n (n+1),pt C 0,sli G 0 n (n+1)],53,8,0,true⟩:=hb.gB
 obtain⟨M4,hL5,X6,hM7,u1,hb2,hF3⟩:=loopE hM X0 h0 hb hn60 hcl hgl hul
 have hraw:oU Try.prog [0] 60 Try.f25 q25 [pt bB 0] M [ttL 7 (sli G 0 n (n+1)),.blk 12 [0,7,8,9] .normal (fr [(0,(pt bB 0))]) M4]=some (.normal,M4,[qL 35 bB 7 M (sli G 0 n (n+1)),.blk 0 (.loop (q25.loopAt 0)) Try.f25.ntmps [0,7,8,9] [some (pt bB 0),some (sli G 0 n (n+1)),some (i64 ((n:Int))),some (i64 0)] M .normal (fr [(0,(pt bB 0))]) M4]):=by kernel_rfl
 exact⟨M4,Ev.told_none noNumP mixedP Try.func25 q25_ok (by kernel_rfl) rK25 (fun B=>sb1 (sbN B) 0 hL5) (fun _ h=>blksF_one h) hraw (.inr rfl) (hk (lC dC35 gbB rfl) (hk (q_blk rfl) hn)),X6,hM7,u1,hb2,hF3⟩
instance:InjV (fun _:Unit=>([]:List Value)):=⟨fun _=>rfl⟩
def okEn(x:BSt)(_:Unit):Prop:=x.n≤60∧x.s.b.cur.length=x.n*x.n*5∧x.s.gone.length=x.n∧x.s.up.length=x.n
abbrev ob25:OB (BSt×Unit):=obB 53 73 42 22 46 (fun _:Unit=> []) okEn (fun x _ _ s=>s=endTo x.n x.s x.n)
theorem con25{x:BSt×Unit}{lv:List Value}{M:Mem}(hM:MemOk M)(h:ob25.A x lv M)(hlo:ob25.lo x≤M.next): ∃v M',TO Try.prog 25 ob25 lv M v M':=by
 have hA:=h
 obtain⟨⟨⟨bB,C,K,G,R,U,D⟩,n,es,ev,S,s,us,ds⟩,u0⟩:=x
 obtain⟨rfl,hb,h1,h2,h3,h4⟩:=h
 simp only at hb h1 h2 h3 h4
 have X0:Ext (cut G M) M:=Ext.cut hlo
 obtain⟨M',q1,q2,q3,us',q4,q5⟩:=hw25 bB C K G R U D n es ev S s us ds hM X0 rfl hb h1 h2 h3 h4
 exact⟨_,M',q1,_,hA,hlo,q2,q5.keep,S,us',ds,_,q4,q5.a,rfl⟩
theorem r0b(bB C2 K2 n eb eo ec i:Nat)(es:List E4)(cur:List Int)(e:E4){M M0:Mem}(hM:MemOk M)(X0:Ext M0 M)(gC2:M.get C2=some ⟨[i64 n,sli K2 0 (n*n*5) (n*n*5+1),.func (.func 47) ⟨[pt bB 0]⟩ ⟨[]⟩],73,3,0,true⟩)(gK2:M.get K2=some ⟨cur.map i64,3,1,0,true⟩)(nK2:M0.next≤K2)(dCK2:C2≠K2)(hY:pBE 53 es (pt bB 0) (hidx [(K2,K2+1)] M))(hev:pEdges es (sli eb eo es.length ec) (hidx [] M))(hee:eAt es (i:Int)=e)(hir:0≤(i:Int)∧(i:Int)<(es.length:Int))(hcond:n≤60∧cur.length=n*n*5∧(0≤(arcE (i:Int) e).f∧(arcE (i:Int) e).f<(n:Int))∧(0≤(arcE (i:Int) e).t∧(arcE (i:Int) e).t<(n:Int))∧(0≤(arcE (i:Int) e).m∧(arcE (i:Int) e).m<5)∧(curAt cur (atP n (arcE (i:Int) e))= -1∨(0≤curAt cur (atP n (arcE (i:Int) e))∧curAt cur (atP n (arcE (i:Int) e))<(es.length:Int))))(cc0:(decide (((i:Int))<((es.length:Int))))=true): ∃T1 M',Rd Try.prog [] (q22.loopAt 0) Try.f22.ntmps (fr [(0,(pt bB 0)),(2,(sli eb eo es.length ec)),(3,(pt C2 0)),(23,(i64 ((es.length:Int)))),(24,(i64 ((i:Int))))]) M .normal T1 M'∧ [0,2,3,23,24].map T1.get= [some (pt bB 0),some (sli eb eo es.length ec),some (pt C2 0),some (i64 ((es.length:Int))),some (i64 (IntKind.wrap .i64 (((i:Int))+(1:Int))))]∧Ext M0 M'∧MemOk M'∧M'.get C2=some ⟨[i64 ((n:Int)),sli K2 0 (n*n*5) (n*n*5+1),.func (.func 47) ⟨[pt bB 0]⟩ ⟨[]⟩],73,3,0,true⟩∧M'.get K2=some ⟨(lowCur costE (⟨C2,K2,bB,n,cur,es,arcE (i:Int) e,(i:Int)⟩:LX (List E4))).map i64,3,1,0,true⟩∧(∀id b,M.get id=some b→id≠K2→M'.get id=some b)∧M.next≤M'.next:=by
 obtain⟨w1,N2,M3,p4,l5,e6,E7,hM8,F9⟩:=call_fc (x:=(es,((i:Int)))) hM con49 (⟨⟨_,_,rfl,hx_out (R:=pEdges) hev,rfl⟩,hir⟩)
 have nx10:=E7.next
 have F11:=hx_ext (R:=(pBE 53)) hY E7
 have g13:=E7.old gC2
 have g14:=E7.old gK2
 have ew1:w1=(.agg ⟨[i64 e.f,i64 e.t,i64 e.m,i64 e.c,i64 ((i:Int)),i64 0,i64 0]⟩):=by have h9:w1= .agg ⟨aRow (arcE (((i:Int))) (eAt es (((i:Int)))))⟩:=F9;rw[hee] at h9;exact h9
 subst ew1
 have X15:=X0.trans E7
 obtain⟨t16,w17,M18,hc19,X20,hM21,nx22,kp23,hR24⟩:=call_ob (P:=Try.prog) (o:=obL 73 47 costE (pBE 53) (fun y i=>0≤i∧i<(y.length:Int))) (f:=48) (x:=(⟨C2,K2,bB,n,cur,es,arcE ((i:Nat):Int) e,((i:Nat):Int)⟩:LX (List E4))) (l:= [pt C2 0,.agg ⟨[i64 e.f,i64 e.t,i64 e.m,i64 e.c,i64 (((i:Nat):Int)),i64 0,i64 0]⟩,i64 (((i:Nat):Int))]) hM8 X15 (nK2) (Nat.le_of_lt (Mem.lt_of_get g14)) (⟨rfl,g13,g14,F11,dCK2,hcond⟩) con48E
 have g25:=kp23 _ _ g13 (fun e=>dCK2 e)
 obtain⟨ew17,gK3x⟩:=hR24
 have gK3:M18.get K2=some ⟨(lowCur costE (⟨C2,K2,bB,n,cur,es,arcE (i:Int) e,(i:Int)⟩:LX (List E4))).map i64,3,1,0,true⟩:=gK3x
 subst ew17
 have hraw:oR Try.prog [] 60 Try.f22 (q22.loopAt 0) [(0,(pt bB 0)),(2,(sli eb eo es.length ec)),(3,(pt C2 0)),(23,(i64 ((es.length:Int)))),(24,(i64 ((i:Int))))] M [ttT 2,ttV 14 (.agg ⟨[i64 e.f,i64 e.t,i64 e.m,i64 e.c,i64 ((i:Int)),i64 0,i64 0]⟩) M3,.at 18 ((bif t16 then 1 else 2),.val (.bool ((isLow (costE es) (curAt cur (atP n (arcE (i:Int) e))) (arcE (i:Int) e).c))),M18)] [0,2,3,23,24]=some (.normal,[some (pt bB 0),some (sli eb eo es.length ec),some (pt C2 0),some (i64 ((es.length:Int))),some (i64 (IntKind.wrap .i64 (((i:Int))+(1:Int))))],M18,[qT (decide (((i:Int))<((es.length:Int)))),qC 49 [sli eb eo es.length ec,i64 ((i:Int))] M (.agg ⟨[i64 e.f,i64 e.t,i64 e.m,i64 e.c,i64 ((i:Int)),i64 0,i64 0]⟩) M3,.cl 48 [pt C2 0,.agg ⟨[i64 e.f,i64 e.t,i64 e.m,i64 e.c,i64 ((i:Int)),i64 0,i64 0]⟩,i64 ((i:Int))] M3 ((bif t16 then 1 else 2),.val (.bool ((isLow (costE es) (curAt cur (atP n (arcE (i:Int) e))) (arcE (i:Int) e).c))),M18)]):=by cases t16<;>kernel_rfl
 obtain⟨T1,h1,h2⟩:=Rd.told noNumP mixedP (fun B=>sb0 (sbC 48 (TC.ok (Q:=(QOb (obL 73 47 costE (pBE 53) (fun y i=>0≤i∧i<(y.length:Int))))) _) (sbQ 49 Q49 (sbN _)))) (fun _ _=>rfl) hraw (hk (bT cc0) (hk (q_call rfl p4 l5 e6) (hk (hc19 _ rfl) hn)))
 exact⟨T1,M18,h1,h2,X20,hM21,g25,gK3,fun id b g h=>kp23 id b (E7.old g) h,by omega⟩
theorem r0x(bB C2 n i:Nat)(ea:Option Addr)(ec:Nat)(es:List E4){M:Mem}(cc0:(decide (((i:Int))<((es.length:Int))))=false): ∃T1,Rd Try.prog [] (q22.loopAt 0) Try.f22.ntmps (fr [(0,(pt bB 0)),(2,(.slice ea es.length ec)),(3,(pt C2 0)),(23,(i64 ((es.length:Int)))),(24,(i64 ((i:Int))))]) M (.exit 0) T1 M∧ [0,2,3].map T1.get= [some (pt bB 0),some (.slice ea es.length ec),some (pt C2 0)]:=by
 have hraw:oR Try.prog [] 60 Try.f22 (q22.loopAt 0) [(0,(pt bB 0)),(2,(.slice ea es.length ec)),(3,(pt C2 0)),(23,(i64 ((es.length:Int)))),(24,(i64 ((i:Int))))] M [ttF 2] [0,2,3]=some ((.exit 0),[some (pt bB 0),some (.slice ea es.length ec),some (pt C2 0)],M,[qF (decide (((i:Int))<((es.length:Int))))]):=by kernel_rfl
 obtain⟨T1,h1,h2⟩:=Rd.told noNumP mixedP (specs_none Try.prog) (fun _ _=>rfl) hraw (hk (bF cc0) hn)
 exact⟨T1,h1,h2⟩
theorem loop0b{bB C2 K2 n ec:Nat}{ea:Option Addr}{es:List E4}{M0 M:Mem}(hM:MemOk M)(X0:Ext M0 M)(gC2:M.get C2=some ⟨[i64 n,sli K2 0 (n*n*5) (n*n*5+1),.func (.func 47) ⟨[pt bB 0]⟩ ⟨[]⟩],73,3,0,true⟩)(gK2:M.get K2=some ⟨(noneL n).map i64,3,1,0,true⟩)(nK2:M0.next≤K2)(dCK2:C2≠K2)(hY:pBE 53 es (pt bB 0) (hidx [(K2,K2+1)] M))(hev:pEdges es (.slice ea es.length ec) (hidx [(K2,K2+1)] M))(hn60:n≤60)(hes:okEs n es)(hl:es.length≤400):
  ∃M',LoopR Try.prog [] (q22.loopAt 0) Try.f22.ntmps (fr [(0,pt bB 0),(2,.slice ea es.length ec),(3,pt C2 0),(23,i64 es.length),(24,i64 ((0:Nat):Int))]) M (.exit 0) (fr [(0,pt bB 0),(2,.slice ea es.length ec),(3,pt C2 0)]) M'∧Ext M0 M'∧MemOk M'∧M'.get C2=some ⟨[i64 n,sli K2 0 (n*n*5) (n*n*5+1),.func (.func 47) ⟨[pt bB 0]⟩ ⟨[]⟩],73,3,0,true⟩∧M'.get K2=some ⟨(leastTo n es es.length).map i64,3,1,0,true⟩∧(∀id b,M.get id=some b→id≠K2→M'.get id=some b)∧M.next≤M'.next:=by
 obtain⟨_,M',h1,h2,h3,h4,h5,h6,h7⟩:=LoopR.for (P:=Try.prog) (GL:= []) (b:=q22.loopAt 0) (nt:=Try.f22.ntmps) (id:=0) (σ:=Unit) (n:=es.length) (Inv:=fun i _ M1=>Ext M0 M1∧MemOk M1∧M1.get C2=some ⟨[i64 n,sli K2 0 (n*n*5) (n*n*5+1),.func (.func 47) ⟨[pt bB 0]⟩ ⟨[]⟩],73,3,0,true⟩∧M1.get K2=some ⟨(leastTo n es i).map i64,3,1,0,true⟩∧(∀id b,M.get id=some b→id≠K2→M1.get id=some b)∧M.next≤M1.next)
  (F:=fun i _=> [(0,pt bB 0),(2,.slice ea es.length ec),(3,pt C2 0),(23,i64 es.length),(24,i64 ((i:Nat):Int))])
  (O:=fun _=> [(0,pt bB 0),(2,.slice ea es.length ec),(3,pt C2 0)])
  (by
   rintro i _ M1 hi ⟨X1,hM1,g1,g2,hk,hn⟩
   have hh: ∀id b,(hidx [(K2,K2+1)] M).get id=some b→(hidx [(K2,K2+1)] M1).get id=some b:=fun id b hg=>by
    rw[hidx_get] at hg⊢
    exact⟨hg.1,hk id b hg.2 (fun e=>hg.1 (by rw[e];simp [hidden,Nat.ble_eq,Nat.blt_eq]))⟩
   have hY1:=AP.ext (R:=pBE 53) hh hY
   have he1:pEdges es (.slice ea es.length ec) (hidx [] M1):=hx_out (R:=pEdges) (AP.ext (R:=pEdges) hh hev)
   obtain⟨eb,eo,rfl,_⟩:=form_pos he1 (by omega)
   have ht:es[i]?=some es[i]:=List.getElem?_eq_getElem hi
   obtain⟨q1,q2,q3,q4⟩:=hes _ (List.getElem_mem hi)
   have hp:=pl_range q1 q2 q3
   have hcl:=leastTo_len n es i
   have hkl:atE n es[i]<(leastTo n es i).length:=by rw[hcl];unfold atE;omega
   have hok:curAt (leastTo n es i) (atE n es[i])= -1∨(0≤curAt (leastTo n es i) (atE n es[i])∧curAt (leastTo n es i) (atE n es[i])<(es.length:Int)):=by
    rcases leastTo_spec n es i _ _ (curAt_some hkl) with e|⟨e1,e2,_⟩
    ·exact .inl e
    ·exact .inr ⟨e1,by omega⟩
   obtain⟨T1,M2,h1,h2,h3,h4,h5,h6,h7,h8⟩:=r0b bB C2 K2 n eb eo ec i es (leastTo n es i) es[i] hM1 X1 g1 g2 nK2 dCK2 hY1 he1 (eAt_some (by rw[Int.toNat_natCast];exact ht)) ⟨by omega,by omega⟩ ⟨hn60,hcl,q1,q2,q3,hok⟩ (decide_eq_true (by omega))
   rw[wrap_succ (by omega)] at h2
   refine⟨(),T1,M2,h1,h2,h3,h4,h5,?_,fun id b g h=>h7 id b (hk id b g h) h,by omega⟩
   rw[h6]
   have:lowCur costE (⟨C2,K2,bB,n,leastTo n es i,es,arcE (i:Int) es[i],(i:Int)⟩:LX (List E4))=leastTo n es (i+1):=by
    rw[leastTo,ht];rfl
   rw[this])
  (by
   rintro _ M1 ⟨X1,hM1,_⟩
   exact r0x bB C2 n es.length ea ec es (M:=M1) (decide_eq_false (by omega)))
  es.length 0 (by omega) (s:=()) (M:=M) ⟨X0,hM,gC2,gK2,fun _ _ g _=>g,Nat.le_refl _⟩
 exact⟨M',h1,h2,h3,h4,h5,h6,h7⟩
theorem r2o(bB C K G R U D n K2 eb eo ec k:Nat)(es:List E4)(ev S:Value)(s0:HB)(gone:List Bool)(rank:List Int)(up down:List (List Int))(us ds:List Value)(lst:List Int)(e:E4)(z:Int){M M0:Mem}(hM:MemOk M)(X0:Ext M0 M)(h0:M0.next=G)(hb:PBld 53 73 42 22 46 ⟨⟨bB,C,K,G,R,U,D⟩,n,es,ev,S,⟨s0,gone,rank,up,down⟩,us,ds⟩ M)(gK2:M.get K2=some ⟨lst.map i64,3,1,0,true⟩)(hK2o: ¬(K2=(⟨bB,C,K,G,R,U,D⟩:BK).a S∨K2∈(⟨bB,C,K,G,R,U,D⟩:BK).ids))(hev:pEdges es (sli eb eo es.length ec) (hidx [] M))(hee:eAt es z=e)(hir:0≤z∧z<(es.length:Int))(hok:okOf ⟨⟨bB,C,K,G,R,U,D⟩,n,es,ev,S,⟨s0,gone,rank,up,down⟩,us,ds⟩ (arcE z e))(cc0:(decide (((k:Int))<(((n*n*5:Nat):Int))))=true)(cc1:(z==(-1:Int))=false)(hc0:((lst.map i64))[0+((k:Int):Int).toNat*1]?=some (i64 z)): ∃T1 M' S14 u15 d16,Rd Try.prog [] (q22.loopAt 2) Try.f22.ntmps (fr [(0,(pt bB 0)),(2,(sli eb eo es.length ec)),(37,(sli K2 0 (n*n*5) (n*n*5+1))),(38,(i64 (((n*n*5:Nat):Int)))),(39,(i64 ((k:Int))))]) M .normal T1 M'∧ [0,2,37,38,39].map T1.get= [some (pt bB 0),some (sli eb eo es.length ec),some (sli K2 0 (n*n*5) (n*n*5+1)),some (i64 (((n*n*5:Nat):Int))),some (i64 (IntKind.wrap .i64 (((k:Int))+(1:Int))))]∧Ext M0 M'∧MemOk M'∧PBld 53 73 42 22 46 ⟨⟨bB,C,K,G,R,U,D⟩,n,es,ev,S14,⟨offerH n s0 (arcE z e),gone,rank,up,down⟩,u15,d16⟩ M'∧(∀id b,M.get id=some b→ ¬(id=(⟨bB,C,K,G,R,U,D⟩:BK).a S∨id∈(⟨bB,C,K,G,R,U,D⟩:BK).ids)→M'.get id=some b)∧((⟨bB,C,K,G,R,U,D⟩:BK).a S14=(⟨bB,C,K,G,R,U,D⟩:BK).a S∨(⟨bB,C,K,G,R,U,D⟩:BK).a S14=(⟨bB,C,K,G,R,U,D⟩:BK).B∨M.next≤(⟨bB,C,K,G,R,U,D⟩:BK).a S14)∧M.next≤M'.next:=by
 obtain⟨w1,N2,M3,p4,l5,e6,E7,hM8,F9⟩:=call_fc (x:=(es,z)) hM con49 (⟨⟨_,_,rfl,hx_out (R:=pEdges) hev,rfl⟩,hir⟩)
 have nx10:=E7.next
 have ew1:w1=(.agg ⟨[i64 e.f,i64 e.t,i64 e.m,i64 e.c,i64 z,i64 0,i64 0]⟩):=by have h9:w1= .agg ⟨aRow (arcE (z) (eAt es (z)))⟩:=F9;rw[hee] at h9;exact h9
 subst ew1
 have X13:=X0.trans E7
 obtain⟨t19,w20,M21,hc22,X23,hM24,nx25,kp26,hR27⟩:=call_ob (P:=Try.prog) (o:=ob50) (f:=50) (x:=(⟨⟨bB,C,K,G,R,U,D⟩,n,es,ev,S,⟨s0,gone,rank,up,down⟩,us,ds⟩,(arcE z e))) (l:= [pt bB 0,.agg ⟨[i64 e.f,i64 e.t,i64 e.m,i64 e.c,i64 z,i64 0,i64 0]⟩]) hM8 X13 (by rw[h0];exact Nat.le_refl _) (Nat.le_of_lt (hb.old (fun id b h=>(E7.old h))).gGlt) (⟨rfl,hb.old (fun id b h=>(E7.old h)),hok⟩) con50
 obtain⟨S14,u15,d16,_,hb17,hS18,rfl⟩:=hR27
 have hraw:oR Try.prog [] 60 Try.f22 (q22.loopAt 2) [(0,(pt bB 0)),(2,(sli eb eo es.length ec)),(37,(sli K2 0 (n*n*5) (n*n*5+1))),(38,(i64 (((n*n*5:Nat):Int)))),(39,(i64 ((k:Int))))] M [ttT 2,ttT 4,ttL 6 (i64 z),ttT 13,ttV 21 (.agg ⟨[i64 e.f,i64 e.t,i64 e.m,i64 e.c,i64 z,i64 0,i64 0]⟩) M3,.at 23 ((bif t19 then 1 else 2),.val w20,M21)] [0,2,37,38,39]=some (.normal,[some (pt bB 0),some (sli eb eo es.length ec),some (sli K2 0 (n*n*5) (n*n*5+1)),some (i64 (((n*n*5:Nat):Int))),some (i64 (IntKind.wrap .i64 (((k:Int))+(1:Int))))],M21,[qT (decide (((k:Int))<(((n*n*5:Nat):Int)))),.q (.inb ((k:Int)) (n*n*5)) (ansB true),qL 3 K2 (0+((k:Int):Int).toNat*1) M (i64 z),qT (!(z==(-1:Int))),qC 49 [sli eb eo es.length ec,i64 z] M (.agg ⟨[i64 e.f,i64 e.t,i64 e.m,i64 e.c,i64 z,i64 0,i64 0]⟩) M3,.cl 50 [pt bB 0,.agg ⟨[i64 e.f,i64 e.t,i64 e.m,i64 e.c,i64 z,i64 0,i64 0]⟩] M3 ((bif t19 then 1 else 2),.val w20,M21)]):=by cases t19<;>kernel_rfl
 obtain⟨T1,h1,h2⟩:=Rd.told noNumP mixedP (fun B=>sb0 (sbQ 49 Q49 (sbC 50 (TC.ok (Q:=(QOb (ob50))) _) (sbN _)))) (fun _ _=>rfl) hraw (hk (bT cc0) (hk (q_inb (by omega) (by simp at cc0;omega)) (hk (q_ld (aload_cell (a:=⟨K2,0+((k:Int):Int).toNat*1,none⟩) dC3 gK2 hc0)) (hk (bT (by rw[cc1];rfl)) (hk (q_call rfl p4 l5 e6) (hk (hc22 _ rfl) hn))))))
 exact⟨T1,M21,S14,u15,d16,h1,h2,X23,hM24,hb17,fun id b g h=>kp26 id b (E7.old g) h,hS18.imp id (Or.imp id (Nat.le_trans (by omega))),by omega⟩
theorem r2n'_raw(bB C K G R U D n K2:Nat)(ea:Option Addr)(ec k:Nat)(es:List E4)(ev S:Value)(s0:HB)(gone:List Bool)(rank:List Int)(up down:List (List Int))(us ds:List Value)(lst:List Int)(z:Int)(M:Mem):oR Try.prog [] 60 Try.f22 (q22.loopAt 2) [(0,(pt bB 0)),(2,(.slice ea es.length ec)),(37,(sli K2 0 (n*n*5) (n*n*5+1))),(38,(i64 (((n*n*5:Nat):Int)))),(39,(i64 ((k:Int))))] M [ttT 2,ttT 4,ttL 6 (i64 z),ttF 13] [0,2,37,38,39]=some (.normal,[some (pt bB 0),some (.slice ea es.length ec),some (sli K2 0 (n*n*5) (n*n*5+1)),some (i64 (((n*n*5:Nat):Int))),some (i64 (IntKind.wrap .i64 (((k:Int))+(1:Int))))],M,[qT (decide (((k:Int))<(((n*n*5:Nat):Int)))),.q (.inb ((k:Int)) (n*n*5)) (ansB true),qL 3 K2 (0+((k:Int):Int).toNat*1) M (i64 z),qF (!(z==(-1:Int)))]):=by kernel_rfl
theorem r2n'(bB C K G R U D n K2:Nat)(ea:Option Addr)(ec k:Nat)(es:List E4)(ev S:Value)(s0:HB)(gone:List Bool)(rank:List Int)(up down:List (List Int))(us ds:List Value)(lst:List Int)(z:Int){M:Mem}(hb:PBld 53 73 42 22 46 ⟨⟨bB,C,K,G,R,U,D⟩,n,es,ev,S,⟨s0,gone,rank,up,down⟩,us,ds⟩ M)(gK2:M.get K2=some ⟨lst.map i64,3,1,0,true⟩)(cc0:(decide (((k:Int))<(((n*n*5:Nat):Int))))=true)(cc1:(z==(-1:Int))=true)(hc0:((lst.map i64))[0+((k:Int):Int).toNat*1]?=some (i64 z)): ∃T1,Rd Try.prog [] (q22.loopAt 2) Try.f22.ntmps (fr [(0,(pt bB 0)),(2,(.slice ea es.length ec)),(37,(sli K2 0 (n*n*5) (n*n*5+1))),(38,(i64 (((n*n*5:Nat):Int)))),(39,(i64 ((k:Int))))]) M .normal T1 M∧ [0,2,37,38,39].map T1.get= [some (pt bB 0),some (.slice ea es.length ec),some (sli K2 0 (n*n*5) (n*n*5+1)),some (i64 (((n*n*5:Nat):Int))),some (i64 (IntKind.wrap .i64 (((k:Int))+(1:Int))))]:=by
 have hraw:=r2n'_raw bB C K G R U D n K2 ea ec k es ev S s0 gone rank up down us ds lst z M
 obtain⟨T1,h1,h2⟩:=Rd.told noNumP mixedP (specs_none Try.prog) (fun _ _=>rfl) hraw (hk (bT cc0) (hk (q_inb (by omega) (by simp at cc0;omega)) (hk (q_ld (aload_cell (a:=⟨K2,0+((k:Int):Int).toNat*1,none⟩) dC3 gK2 hc0)) (hk (bF (by rw[cc1];rfl)) hn))))
 exact⟨T1,h1,h2⟩
theorem r2x'_raw(bB n K2:Nat)(ea:Option Addr)(ec k:Nat)(es:List E4)(M:Mem):oR Try.prog [] 60 Try.f22 (q22.loopAt 2) [(0,(pt bB 0)),(2,(.slice ea es.length ec)),(37,(sli K2 0 (n*n*5) (n*n*5+1))),(38,(i64 (((n*n*5:Nat):Int)))),(39,(i64 ((k:Int))))] M [ttF 2] []=some ((.exit 2),[],M,[qF (decide (((k:Int))<(((n*n*5:Nat):Int))))]):=by kernel_rfl
theorem r2x'(bB n K2:Nat)(ea:Option Addr)(ec k:Nat)(es:List E4){M:Mem}(cc0:(decide (((k:Int))<(((n*n*5:Nat):Int))))=false): ∃T1,Rd Try.prog [] (q22.loopAt 2) Try.f22.ntmps (fr [(0,(pt bB 0)),(2,(.slice ea es.length ec)),(37,(sli K2 0 (n*n*5) (n*n*5+1))),(38,(i64 (((n*n*5:Nat):Int)))),(39,(i64 ((k:Int))))]) M (.exit 2) T1 M∧ [].map T1.get= []:=by
 have hraw:=r2x'_raw bB n K2 ea ec k es M
 obtain⟨T1,h1,h2⟩:=Rd.told noNumP mixedP (specs_none Try.prog) (fun _ _=>rfl) hraw (hk (bF cc0) hn)
 exact⟨T1,h1,h2⟩
theorem pBE_of{x:BSt}{M M':Mem}{K2:Nat}(hb:PBld 53 73 42 22 46 x M)(hE: ∀id b,M.get id=some b→M'.get id=some b)(hK:M.next≤K2):pBE 53 x.es (pt x.k.B 0) (hidx [(K2,K2+1)] M')∧pEdges x.es x.ev (hidx [(K2,K2+1)] M'):=by
 have hh: ∀id b,M.get id=some b→(hidx [(K2,K2+1)] M').get id=some b:=fun id b hg=>hidx_get.2 ⟨hid_one (by have:=Mem.lt_of_get hg;omega),hE id b hg⟩
 have he:=AP.ext (R:=pEdges) hh (hx_out (R:=pEdges) hb.es)
 exact⟨⟨x.k.B,_,_,_,_,_,_,_,_,rfl,hh _ _ hb.gB,he⟩,he⟩
theorem loop2b{bB C K G R U D n K2 ec:Nat}{ea:Option Addr}{es:List E4}{ev S:Value}{gone:List Bool}{rank:List Int}{up down:List (List Int)}{us ds:List Value}{lst:List Int}{M0 M:Mem}(hM:MemOk M)(X0:Ext M0 M)(h0:M0.next=G)(hb:PBld 53 73 42 22 46 ⟨⟨bB,C,K,G,R,U,D⟩,n,es,ev,S,⟨⟨[],noneL n⟩,gone,rank,up,down⟩,us,ds⟩ M)(gK2:M.get K2=some ⟨lst.map i64,3,1,0,true⟩)(hK2o: ¬(K2=(⟨bB,C,K,G,R,U,D⟩:BK).a S∨K2∈(⟨bB,C,K,G,R,U,D⟩:BK).ids))(hev:pEdges es (.slice ea es.length ec) (hidx ((⟨bB,C,K,G,R,U,D⟩:BK).hideS S) M))(hn60:n≤60)(hes:okEs n es)(hll:lst.length=n*n*5)(hsp: ∀(k:Nat) (x:Int),lst[k]?=some x→x= -1∨(0≤x∧ ∃e,es[x.toNat]?=some e)):
  ∃M',LoopR Try.prog [] (q22.loopAt 2) Try.f22.ntmps (fr [(0,pt bB 0),(2,.slice ea es.length ec),(37,sli K2 0 (n*n*5) (n*n*5+1)),(38,i64 ((n*n*5:Nat):Int)),(39,i64 ((0:Nat):Int))]) M (.exit 2) (fr []) M'∧Ext M0 M'∧MemOk M'∧ ∃S' us' ds',PBld 53 73 42 22 46 ⟨⟨bB,C,K,G,R,U,D⟩,n,es,ev,S',⟨beginL n es lst,gone,rank,up,down⟩,us',ds'⟩ M'∧FrB (⟨bB,C,K,G,R,U,D⟩:BK) S M S' M':=by
 have hnn:n*n*5≤60*60*5:=Nat.mul_le_mul_right _ (Nat.mul_le_mul hn60 hn60)
 obtain⟨⟨S',us',ds'⟩,M',h1,h2,h3,h4,h5⟩:=LoopR.for (P:=Try.prog) (GL:= []) (b:=q22.loopAt 2) (nt:=Try.f22.ntmps) (id:=2) (σ:=Value×List Value×List Value) (n:=n*n*5) (Inv:=fun k σ M1=>Ext M0 M1∧MemOk M1∧PBld 53 73 42 22 46 ⟨⟨bB,C,K,G,R,U,D⟩,n,es,ev,σ.1,⟨beginL n es (lst.take k),gone,rank,up,down⟩,σ.2.1,σ.2.2⟩ M1∧FrB (⟨bB,C,K,G,R,U,D⟩:BK) S M σ.1 M1)
  (F:=fun k _=> [(0,pt bB 0),(2,.slice ea es.length ec),(37,sli K2 0 (n*n*5) (n*n*5+1)),(38,i64 ((n*n*5:Nat):Int)),(39,i64 ((k:Nat):Int))])
  (O:=fun _=> [])
  (by
   rintro k ⟨S1,us1,ds1⟩ M1 hk ⟨X1,hM1,hb1,hF⟩
   simp only at hb1 hF
   have hK2l:=Mem.lt_of_get gK2
   have gK1:=hF.keep _ _ gK2 hK2o
   have hK1o: ¬(K2=(⟨bB,C,K,G,R,U,D⟩:BK).a S1∨K2∈(⟨bB,C,K,G,R,U,D⟩:BK).ids):=by
    rintro(e|e)
    ·rcases hF.a with q|q|q
     ·exact hK2o (.inl (e.trans q))
     ·exact hK2o (.inr (by rw[e,q];simp [BK.ids]))
     ·omega
    ·exact hK2o (.inr e)
   have hev1:pEdges es (.slice ea es.length ec) (hidx [] M1):=hx_out (R:=pEdges) (AP.ext (R:=pEdges) hF.hids hev)
   have ht:lst[k]?=some lst[k]:=List.getElem?_eq_getElem (by omega)
   have hgc:(lst.map i64)[0+((k:Int):Int).toNat*1]?=some (i64 lst[k]):=by rw[Nat.zero_add,Nat.mul_one,Int.toNat_natCast,List.getElem?_map,ht];rfl
   obtain⟨q1,q2⟩:=HI.begin (C:=2147483647) hes (by omega) (lst.take k)
   have hb2:beginL n es (lst.take (k+1))=beginOne n es (beginL n es (lst.take k)) lst[k]:=by
    unfold beginL
    rw[List.take_succ_eq_append_getElem (by omega),List.foldl_append];rfl
   cases hz:lst[k]==(-1:Int) with
   |true=>
    by_cases hee:es.length=0
    ·obtain⟨T1,h1,h2⟩:=r2n' (M:=M1) bB C K G R U D n K2 ea ec k es ev S1 _ gone rank up down us1 ds1 lst lst[k] hb1 gK1 (decide_eq_true (by omega)) hz hgc
     rw[wrap_succ (by omega)] at h2
     refine⟨(S1,us1,ds1),T1,M1,h1,h2,X1,hM1,?_,hF⟩
     rw[hb2,beginOne,hz];exact hb1
    ·obtain⟨T1,h1,h2⟩:=r2n' (M:=M1) bB C K G R U D n K2 ea ec k es ev S1 _ gone rank up down us1 ds1 lst lst[k] hb1 gK1 (decide_eq_true (by omega)) hz hgc
     rw[wrap_succ (by omega)] at h2
     refine⟨(S1,us1,ds1),T1,M1,h1,h2,X1,hM1,?_,hF⟩
     rw[hb2,beginOne,hz];exact hb1
   |false=>
    rcases hsp k _ ht with e|⟨e1,ee,e2⟩
    ·rw[e] at hz;cases hz
    ·have hlt:=(List.getElem?_eq_some_iff.1 e2).1
     obtain⟨eb,eo,rfl,_⟩:=form_pos hev1 (by omega)
     obtain⟨p1,p2,p3,_⟩:=hes _ (List.mem_of_getElem? e2)
     have hok:okOf ⟨⟨bB,C,K,G,R,U,D⟩,n,es,ev,S1,⟨beginL n es (lst.take k),gone,rank,up,down⟩,us1,ds1⟩ (arcE lst[k] ee):=⟨hn60,⟨_,q1⟩,by show(beginL n es (lst.take k)).arcs.length<_;rw[List.length_take] at q2;omega,p1,p2,p3⟩
     obtain⟨T1,M2,S2,us2,ds2,h1,h2,h3,h4,h5,h6,h7,h8⟩:=r2o bB C K G R U D n K2 eb eo ec k es ev S1 _ gone rank up down us1 ds1 lst ee lst[k] hM1 X1 h0 hb1 gK1 hK1o hev1 (eAt_some e2) ⟨e1,by omega⟩ hok (decide_eq_true (by omega)) hz hgc
     rw[wrap_succ (by omega)] at h2
     refine⟨(S2,us2,ds2),T1,M2,h1,h2,h3,h4,?_,hF.step h6 h7 h8⟩
     rw[hb2,beginOne,hz]
     simp only [cond_false,e2]
     exact h5)
  (by
   rintro⟨S1,us1,ds1⟩ M1 ⟨X1,hM1,hb1,hF⟩
   exact r2x' bB n K2 ea ec (n*n*5) es (M:=M1) (decide_eq_false (by omega)))
  (n*n*5) 0 (by omega) (s:=(S,us,ds)) (M:=M) ⟨X0,hM,hb,FrB.refl _ _ _⟩
 rw[←hll,List.take_length] at h4
 exact⟨M',h1,h2,h3,S',us',ds',h4,h5⟩
theorem rK22:Try.f22.results= #[]:=by kernel_rfl
theorem hw22(bB C K G R U D n:Nat)(es:List E4)(ea:Option Addr)(ec:Nat)(S:Value)(gone:List Bool)(rank:List Int)(up down:List (List Int))(us ds:List Value){M M0:Mem}(hM:MemOk M)(X0:Ext M0 M)(h0:M0.next=G)(hb:PBld 53 73 42 22 46 ⟨⟨bB,C,K,G,R,U,D⟩,n,es,.slice ea es.length ec,S,⟨⟨[],noneL n⟩,gone,rank,up,down⟩,us,ds⟩ M)(hn24:1≤n∧n≤24)(hn60:n≤60)(hes:okEs n es)(hel:es.length≤400)(hln:ea.isNone=true→es.length=0∧ec=0): ∃M',Ev Try.prog [] 22 [pt bB 0] M (.tuple #[]) M'∧Ext M0 M'∧MemOk M'∧ ∃S' us' ds',PBld 53 73 42 22 46 ⟨⟨bB,C,K,G,R,U,D⟩,n,es,.slice ea es.length ec,S',⟨beginH n es,gone,rank,up,down⟩,us',ds'⟩ M'∧FrB (⟨bB,C,K,G,R,U,D⟩:BK) S M S' M':=by
 have gbB:M.get bB=some ⟨[i64 n,.slice ea es.length ec,sli R 0 n (n+1),S,sli U 0 n (n+1),sli D 0 n (n+1),pt C 0,sli G 0 n (n+1)],53,8,0,true⟩:=hb.gB
 obtain⟨w1,N2,M3,p4,l5,e6,E7,hM8,F9⟩:=call_fc (x:=(n,bB)) hM con45E (⟨⟨_,_,rfl,rfl,rfl⟩,hn24⟩)
 have nx10:=E7.next
 obtain⟨C2,K2,ew1,nC2,nK2,dCK2,gC2,gK2⟩:=F9
 simp only [id] at gC2 gK2
 subst ew1
 have nK2b:M0.next≤K2:=by have h9:=X0.next;omega
 have X12:=X0.trans E7
 have hEo: ∀id b,M.get id=some b→M3.get id=some b:=fun id b h=>E7.old h
 have hnK:M.next≤K2:=nK2
 have hpb:=pBE_of hb hEo hnK
 obtain⟨M13,hL14,X15,hM16,gC3,gK3,hk3,hn3⟩:=loop0b hM8 X12 gC2 gK2 nK2b dCK2 hpb.1 hpb.2 hn60 hes hel
 have hEo2: ∀id b,M.get id=some b→M13.get id=some b:=fun id b h=>hk3 id b (hEo id b h) (by have:=Mem.lt_of_get h;omega)
 have hK2o: ¬(K2=(⟨bB,C,K,G,R,U,D⟩:BK).a S∨K2∈(⟨bB,C,K,G,R,U,D⟩:BK).ids):=fun e=>by have:=hb.own_lt K2 e;omega
 have hb3:=hb.old hEo2
 obtain⟨M22,hL23,X24,hM25,S17,u18,d19,hb20,hF21⟩:=loop2b hM16 X15 h0 hb3 gK3 hK2o hb3.es hn60 hes (leastTo_len n es es.length) (fun k x hx=>(leastTo_spec n es es.length k x hx).imp id (fun h=>⟨h.1,h.2.2.imp fun _ q=>q.1⟩))
 have hraw:oU Try.prog [0,2] 60 Try.f22 q22 [pt bB 0] M [ttL 11 (.slice ea es.length ec),ttL 25 (i64 ((n:Int))),ttV 31 (pt C2 0) M3,ttT 37,.blk 40 [0,2,3,23,24] .normal (fr [(0,(pt bB 0)),(2,(.slice ea es.length ec)),(3,(pt C2 0))]) M13,ttL 48 (sli K2 0 (n*n*5) (n*n*5+1)),.blk 53 [0,2,37,38,39] .normal (fr []) M22]=some (.normal,M22,[qL 24 bB 1 M (.slice ea es.length ec),qL 3 bB 0 M (i64 ((n:Int))),qC 45 [i64 ((n:Int)),.func (.func 47) ⟨[pt bB 0]⟩ ⟨[]⟩] M (pt C2 0) M3,.ln ea es.length ec,.blk 0 (.loop (q22.loopAt 0)) Try.f22.ntmps [0,2,3,23,24] [some (pt bB 0),some (.slice ea es.length ec),some (pt C2 0),some (i64 ((es.length:Int))),some (i64 0)] M3 .normal (fr [(0,(pt bB 0)),(2,(.slice ea es.length ec)),(3,(pt C2 0))]) M13,qL 22 C2 1 M13 (sli K2 0 (n*n*5) (n*n*5+1)),.blk 2 (.loop (q22.loopAt 2)) Try.f22.ntmps [0,2,37,38,39] [some (pt bB 0),some (.slice ea es.length ec),some (sli K2 0 (n*n*5) (n*n*5+1)),some (i64 (((n*n*5:Nat):Int))),some (i64 0)] M13 .normal (fr []) M22]):=by kernel_rfl
 exact⟨M22,Ev.told_none noNumP mixedP Try.func22 q22_ok (by kernel_rfl) rK22 (fun B=>sb2 (sbQ 45 Q45E (sbN _)) 0 hL14 2 hL23) (fun _ h=>blksF_two h) hraw (.inr rfl) (hk (lC dC24 gbB rfl) (hk (lC dC3 gbB rfl) (hk (q_call rfl p4 l5 e6) (hk (lN hln) (hk (q_blk rfl) (hk (lC dC22 gC3 rfl) (hk (q_blk rfl) hn))))))),X24,hM25,S17,u18,d19,hb20,(FrB.mk (fun id b g _=>hEo2 id b g) (.inl rfl) (by omega):FrB (⟨bB,C,K,G,R,U,D⟩:BK) S M S M13).step hF21.keep hF21.a hF21.next⟩
def okBe(x:BSt)(_:Unit):Prop:=(1≤x.n∧x.n≤24)∧okEs x.n x.es∧x.es.length≤400∧x.s.b=⟨[],noneL x.n⟩
abbrev ob22:OB (BSt×Unit):=obB 53 73 42 22 46 (fun _:Unit=> []) okBe (fun x _ _ s=>s={x.s with b:=beginH x.n x.es})
theorem con22{x:BSt×Unit}{lv:List Value}{M:Mem}(hM:MemOk M)(h:ob22.A x lv M)(hlo:ob22.lo x≤M.next): ∃v M',TO Try.prog 22 ob22 lv M v M':=by
 have hA:=h
 obtain⟨⟨⟨bB,C,K,G,R,U,D⟩,n,es,ev,S,⟨s0,gone,rank,up,down⟩,us,ds⟩,u0⟩:=x
 obtain⟨rfl,hb,h1,h2,h3,h4⟩:=h
 simp only at hb h1 h2 h3 h4
 subst h4
 have X0:Ext (cut G M) M:=Ext.cut hlo
 obtain⟨ea,ec,hev⟩:=GRowsAt.form hb.es
 simp only at hev
 subst hev
 have hln:=GRowsAt.ln hb.es
 obtain⟨M',q1,q2,q3,S',us',ds',q4,q5⟩:=hw22 bB C K G R U D n es ea ec S gone rank up down us ds hM X0 rfl hb h1 (by omega) h2 h3 hln
 exact⟨_,M',q1,_,hA,hlo,q2,q5.keep,S',us',ds',_,q4,q5.a,rfl⟩
end Go.Proofs.Ytdaglldahidmbaa
