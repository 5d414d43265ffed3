/-
  Package hier: each of its laws for every argument; no conditions. The last text states which.
-/
import Derived.Test.YtdaglldahidmbaaGAHD
import Derived.Test.YtdaglldahidmbaaAmAcd
import Derived.Test.YtdaglldahidmbaaGAmTn
set_option linter.unusedVariables false
set_option linter.unusedSimpArgs false
open Go Go.Am Go.Proofs
namespace Go.Proofs.Ytdaglldahidmbaa
set_option maxRecDepth 100000
theorem rK43:Try.f43.results= #[.tmp 2]:=by kernel_rfl
theorem AccD.newE{M M':Mem}{n:Nat}{l:List E4}{S:Value}(h:AccD 37 4 M n ((l.map eRow).flatten) S M')(hn:n=l.length)(hl:l.length≤9223372036854775807):pEdges l S (hid M.next M'):=by
 subst hn
 rcases h with⟨b,rfl,h2,h3,h4,h5⟩|⟨b,rfl,h2,h3,h4,h5⟩
 ·rw[List.eq_nil_of_length_eq_zero h2]
  exact GRowsAt.of_blk' (l:=([]:List E4)) (hid_of h4 h5) rfl rfl (fun _ h=>by cases h) (by simp)
 ·exact GRowsAt.of_blk' (hid_of h4 h5) rfl rfl (fun _ _=>rfl) hl
theorem hw43s(ad:Addr)(ec:Nat)(l:List E4){M:Mem}(hM:MemOk M)(hl:pEdges l (.slice (some ad) l.length ec) M)(hl4:l.length≤400): ∃v_ M',Ev Try.prog [] 43 [.slice (some ad) l.length ec] M v_ M'∧Ext M M'∧MemOk M'∧newR pEdges l M.next v_ M':=by
 obtain⟨b1,M2,eb3,em4,g5,E6,hM7⟩:=new_t hM ⟨[],37,4,0,true⟩
 have nb1:M.next≤b1:=by rw[←eb3];exact(Ext.refl M).next
 have X9:=(Ext.refl M).trans E6
 have A17:AccD 37 4 M 0 [] (sli b1 0 0 1) M2:= .inl ⟨b1,rfl,rfl,rfl,nb1,g5⟩
 obtain⟨t10,S11,M12,q13,X14,hM15,A16⟩:=accd_row (P:=Try.prog) (sT:=24) (xT:=24) (y:=32) A17 X9 hM7 (by kernel_rfl) (by kernel_rfl) (by kernel_rfl) (by kernel_rfl) (by decide) (by decide) rfl (AP.ext (R:=pEdges) (fun id b hg=>(X9).old hg) hl) (by omega) (fun _ _=>rfl)
 have hraw:oT Try.prog [] 60 Try.f43 q43 [.slice (some ad) l.length ec] M [ttV 8 (sli b1 0 0 1) M2,.at 12 ((bif t10 then 1 else 2),.val S11,M12)] 2=some (.ret,some S11,M12,[.eq (abuildSlice Try.prog 24 0 [] M) (1,.val (sli b1 0 0 1),M2),.q (.append [24,24] (sli b1 0 0 1) (.slice (some ad) l.length ec) M2) ((bif t10 then 1 else 2),.val S11,M12)]):=by cases t10<;>kernel_rfl
 exact⟨S11,M12,Ev.told_tmp noNumP mixedP Try.func43 q43_ok (by kernel_rfl) rK43 (specs_none Try.prog) (fun _ _=>rfl) hraw (hk (q_eq (by rw[←eb3,←em4];kernel_rfl) Nat.one_ne_zero) (hk (q_app q13 (by cases t10<;>simp)) hn)),X14,hM15,AccD.newE (by simpa using A16) (by simp) (by omega)⟩
theorem hw43n(u0:Unit){M:Mem}(hM:MemOk M): ∃v_ M',Ev Try.prog [] 43 [sln] M v_ M'∧Ext M M'∧MemOk M'∧v_=sln:=by
 have hraw:oT Try.prog [] 60 Try.f43 q43 [sln] M [] 2=some (.ret,some sln,M,[]):=by kernel_rfl
 exact⟨sln,M,Ev.told_tmp noNumP mixedP Try.func43 q43_ok (by kernel_rfl) rK43 (specs_none Try.prog) (fun _ _=>rfl) hraw hn,Ext.refl M,hM,rfl⟩
abbrev Q43:=FC (asP (as1 pEdges) fun x=>x.length≤400) (newR pEdges) id
theorem con43{x:List E4}{lv:List Value}{M:Mem}(hM:MemOk M)(h:(asP (as1 pEdges) fun x:List E4=>x.length≤400) x lv M): ∃v M',Con Try.prog [] 43 Q43 lv M v M':=by
 refine FC.con h ?_
 obtain⟨⟨g0,rfl,k0⟩,h4⟩:=h
 obtain⟨a,c,rfl⟩:=GRowsAt.form k0
 cases a with
 |none=>
  obtain⟨h1,h2⟩:=GRowsAt.ln k0 rfl
  subst h2
  rw[List.eq_nil_of_length_eq_zero h1] at k0⊢
  obtain⟨v',M',q1,q2,_,rfl⟩:=hw43n () hM
  exact⟨_,M',q1,q2,GRowsAt.nil none⟩
 |some a=>
  obtain⟨v',M',q1,q2,_,q3⟩:=hw43s a c x hM k0 h4
  exact⟨v',M',q1,q2,q3⟩
theorem dA31:(Try.prog.underlying 31).map isAggD=some true:=by kernel_rfl
theorem dS31:(Try.prog.info? 31).map (·.size)=some 6:=by kernel_rfl
theorem rK21:Try.f21.results= #[.tmp 2]:=by kernel_rfl
def pNB(x:Nat×List E4)(nx:Nat)(v:Value)(M:Mem):Prop:= ∃k ev,v=pt k.B 0∧(∀i∈k.ids,nx≤i)∧PBld 53 73 42 22 46 ⟨k,x.1,x.2,ev,sln,⟨⟨[],noneL x.1⟩,List.replicate x.1 false,List.replicate x.1 (-1),List.replicate x.1 [],List.replicate x.1 []⟩,List.replicate x.1 sln,List.replicate x.1 sln⟩ M
theorem hw21(n:Nat)(es:List E4)(ea:Option Addr)(ec:Nat){M:Mem}(hM:MemOk M)(hes:pEdges es (.slice ea es.length ec) M)(hel:es.length≤400)(hn24:1≤n∧n≤24): ∃v_ M',Ev Try.prog [] 21 [.agg ⟨[i64 ((n:Int)),.slice ea es.length ec]⟩] M v_ M'∧Ext M M'∧MemOk M'∧pNB (n,es) M.next v_ M':=by
 obtain⟨b1,M2,eb3,em4,g5,E6,hM7⟩:=new_t hM ⟨[i64 ((n:Int)),.slice ea es.length ec],26,2,0,true⟩
 have X9:=(Ext.refl M).trans E6
 obtain⟨b10,M11,eb12,em13,g14,E15,hM16⟩:=mks_t (P:=Try.prog) (t:=35) (elem:=4) (z:=(.bool false)) (n:=n) hM7 (by kernel_rfl) (by kernel_rfl) (by omega)
 have nb10:M.next≤b10:=by rw[←eb12];exact X9.next
 have nx17:=E15.next
 have g18:=E15.old g5
 have X19:=X9.trans E15
 obtain⟨b20,M21,eb22,em23,g24,E25,hM26⟩:=new_t hM16 ⟨[i64 0,sln,sln,sln,sln,sln,.pointer none,sli b10 0 n (n+1)],53,8,0,true⟩
 have nb20:M.next≤b20:=by rw[←eb22];exact X19.next
 have db1b20:b1≠b20:=by have:=Mem.lt_of_get g18;omega
 have db10b20:b10≠b20:=by have:=Mem.lt_of_get g14;omega
 have g27:=E25.old g18
 have g28:=E25.old g14
 have X30:=X19.trans E25
 obtain⟨R31,eR32⟩: ∃m:Mem,m=Mem.mk M21.blks M21.next M21.hide []:=⟨_,rfl⟩
 have X33:Ext (Mem.mk M.blks M.next M.hide []) R31:=by rw[eR32];exact Ext.aside (X30)
 have lg34:R31.log= []:=by rw[eR32]
 have nxR31:R31.next=M21.next:=by rw[eR32]
 have hM35:MemOk R31:=by rw[eR32];exact MemOk.log hM26
 have ltb1M21:b1<M21.next:=by have h:=Mem.lt_of_get g27;exact h
 have g36:R31.get b1=some ⟨[i64 ((n:Int)),.slice ea es.length ec],26,2,0,true⟩:=by rw[eR32];exact g27
 have ltb10M21:b10<M21.next:=by have h:=Mem.lt_of_get g28;exact h
 have g37:R31.get b10=some ⟨List.replicate n (.bool false),4,1,0,true⟩:=by rw[eR32];exact g28
 have ltb20M21:b20<M21.next:=by have h:=Mem.lt_of_get g24;exact h
 have g38:R31.get b20=some ⟨[i64 0,sln,sln,sln,sln,sln,.pointer none,sli b10 0 n (n+1)],53,8,0,true⟩:=by rw[eR32];exact g24
 have nxtR31:=congrArg Mem.next eR32
 dsimp only at nxtR31
 have ltb10M44:=Mem.lt_of_get g37
 have ltb20M44:=Mem.lt_of_get g38
 obtain⟨w42,N43,M44,p45,l46,e47,E48,hM49,F50⟩:=call_fc (x:=es) hM35 con43 (⟨⟨_,rfl,AP.Ext (R:=pEdges) (AP.log (R:=pEdges) hes) X33⟩,hel⟩)
 have nx51:=E48.next
 have g52:=E48.old g36
 have g53:=E48.old g37
 have g54:=E48.old g38
 have G41:pEdges es w42 (hidx [(0,R31.next)] M44):=hx_of F50
 obtain⟨a39,c40,ew42⟩:=GRowsAt.form G41
 subst ew42
 have lg55:M44.log= []:=by rw[←e47];exact lg34
 have X56:=X33.trans E48
 obtain⟨b57,M58,eb59,em60,g61,E62,hM63⟩:=new_t hM49 ⟨[i64 (-1)],3,1,0,true⟩
 have nb57:M.next≤b57:=by rw[←eb59];exact X56.next
 have F64:=hx_new (R:=pEdges) G41 eb59 E62
 have g65:=E62.old g52
 have g66:=E62.old g53
 have g67:=E62.old g54
 have lg68:M58.log= []:=by rw[←em60];exact lg55
 have X70:=X56.trans E62
 have ekb71:((n:Int))=(((n):Nat):Int):=rfl
 have ltb1M74:=Mem.lt_of_get g65
 have ltb10M74:=Mem.lt_of_get g66
 have ltb20M74:=Mem.lt_of_get g67
 have ltb57M74:=Mem.lt_of_get g61
 obtain⟨w72,N73,M74,p75,l76,e77,E78,hM79,F80⟩:=call_fc (x:=((),n)) hM63 con44 (⟨⟨_,_,rfl,⟨_,rfl,g61⟩,congrArg i64 ekb71⟩,⟨n,hn24,.inl rfl⟩⟩)
 have nx81:=E78.next
 have g83:=E78.old g65
 have g84:=E78.old g66
 have g85:=E78.old g67
 obtain⟨b71,ew72,nb71,gb71⟩:=F80
 subst ew72
 have db10b71:b10≠b71:=by have:=Mem.lt_of_get g66;omega
 have db20b71:b20≠b71:=by have:=Mem.lt_of_get g67;omega
 have mb71:=nb71
 have nb71:=Nat.le_trans (X70).next nb71
 have lg87:M74.log= []:=by rw[←e77];exact lg68
 have X88:=X70.trans E78
 have F89:=hx_newc (R:=pEdges) F64 mb71 E78
 obtain⟨b90,M91,eb92,em93,g94,E95,hM96,lg97⟩:=mks_t2 (P:=Try.prog) (t:=29) (elem:=22) (z:=sln) (n:=n) hM79 (by kernel_rfl) (by kernel_rfl) (by omega)
 have nb90:M.next≤b90:=by rw[←eb92];exact X88.next
 have db10b90:b10≠b90:=by have:=Mem.lt_of_get g84;omega
 have db20b90:b20≠b90:=by have:=Mem.lt_of_get g85;omega
 have db71b90:b71≠b90:=by have:=Mem.lt_of_get gb71;omega
 have nx98:=E95.next
 have F99:=hx_new (R:=pEdges) F89 eb92 E95
 have g100:=E95.old g83
 have g101:=E95.old g84
 have g102:=E95.old g85
 have g104:=E95.old gb71
 have lg105:M91.log= []:=by rw[lg97];exact lg87
 have X106:=X88.trans E95
 obtain⟨b107,M108,eb109,em110,g111,E112,hM113,lg114⟩:=mks_t2 (P:=Try.prog) (t:=29) (elem:=22) (z:=sln) (n:=n) hM96 (by kernel_rfl) (by kernel_rfl) (by omega)
 have nb107:M.next≤b107:=by rw[←eb109];exact X106.next
 have db10b107:b10≠b107:=by have:=Mem.lt_of_get g101;omega
 have db20b107:b20≠b107:=by have:=Mem.lt_of_get g102;omega
 have db71b107:b71≠b107:=by have:=Mem.lt_of_get g104;omega
 have db90b107:b90≠b107:=by have:=Mem.lt_of_get g94;omega
 have F116:=hx_new (R:=pEdges) F99 eb109 E112
 have g117:=E112.old g100
 have g118:=E112.old g101
 have g119:=E112.old g102
 have g121:=E112.old g104
 have g122:=E112.old g94
 have lg123:M108.log= []:=by rw[lg114];exact lg105
 have X124:=X106.trans E112
 obtain⟨M125,q126,g127,kp128,X129,hM130,nx131⟩:=store_t (o:=0) (v:=(.agg ⟨[i64 ((n:Int)),.slice a39 es.length c40,sli b71 0 n (n+1),sln,sli b90 0 n (n+1),sli b107 0 n (n+1)]⟩)) (new:= [i64 ((n:Int)),.slice a39 es.length c40,sli b71 0 n (n+1),sln,sli b90 0 n (n+1),sli b107 0 n (n+1),.pointer none,sli b10 0 n (n+1)]) X124 nb20 hM113 dS31 g119 rfl rfl (Nat.zero_le _) (Nat.le_of_ble_eq_true rfl) rfl
 replace g127:M125.get b20=some ⟨[i64 ((n:Int)),.slice a39 es.length c40,sli b71 0 n (n+1),sln,sli b90 0 n (n+1),sli b107 0 n (n+1),.pointer none,sli b10 0 n (n+1)],53,8,0,true⟩:=g127
 have F132:=hx_keep (R:=pEdges) F116 (fun id h _=>kp128 id h) (by intro id hh;simp only [hidden_con] at hh;omega)
 have g133:=(kp128 _ db1b20).trans g117
 have g134:=(kp128 _ db10b20).trans g118
 have g136:=(kp128 _ (Ne.symm db20b71)).trans g121
 have g137:=(kp128 _ (Ne.symm db20b90)).trans g122
 have g138:=(kp128 _ (Ne.symm db20b107)).trans g111
 have lg139:M125.log= [b20]:=by rw[nx131,lg123]
 obtain⟨M140,ef141⟩: ∃m:Mem,m=(Mem.mk M125.blks M125.next M125.hide (M125.log++M21.log)):=⟨_,rfl⟩
 have X142:Ext M M140:=by rw[ef141];exact Ext.join (X30) (X129)
 have hM143:MemOk M140:=by rw[ef141];exact hM130
 have g144:M140.get b1=some ⟨[i64 ((n:Int)),.slice ea es.length ec],26,2,0,true⟩:=by rw[ef141];exact g133
 have g145:M140.get b10=some ⟨List.replicate n (.bool false),4,1,0,true⟩:=by rw[ef141];exact g134
 have g146:M140.get b20=some ⟨[i64 ((n:Int)),.slice a39 es.length c40,sli b71 0 n (n+1),sln,sli b90 0 n (n+1),sli b107 0 n (n+1),.pointer none,sli b10 0 n (n+1)],53,8,0,true⟩:=by rw[ef141];exact g127
 have g148:M140.get b71=some ⟨List.replicate (n) (i64 (-1)),3,1,0,true⟩:=by rw[ef141];exact g136
 have g149:M140.get b90=some ⟨List.replicate n sln,22,1,0,true⟩:=by rw[ef141];exact g137
 have g150:M140.get b107=some ⟨List.replicate n sln,22,1,0,true⟩:=by rw[ef141];exact g138
 have F151:=hx_still (R:=pEdges) (M':=M140) F132 (fun id b h=>by rw[ef141];exact h)
 have nxtM140:=congrArg Mem.next ef141
 dsimp only at nxtM140
 have ltb71M154:=Mem.lt_of_get g148
 obtain⟨w152,N153,M154,p155,l156,e157,E158,hM159,F160⟩:=call_fc (x:=(n,b20)) hM143 con45A (⟨⟨_,_,rfl,rfl,rfl⟩,hn24⟩)
 have g164:=E158.old g145
 have g165:=E158.old g146
 have g167:=E158.old g148
 have g168:=E158.old g149
 have g169:=E158.old g150
 obtain⟨C2,K2,ew152,nC2,nK2,dCK2,gC2,gK2⟩:=F160
 simp only [id] at gC2 gK2
 subst ew152
 have X170:=X142.trans E158
 have db10C2:b10≠C2:=by have h9:=Mem.lt_of_get g145;exact Nat.ne_of_lt (Nat.lt_of_lt_of_le h9 nC2)
 have db10K2:b10≠K2:=by have h9:=Mem.lt_of_get g145;exact Nat.ne_of_lt (Nat.lt_of_lt_of_le h9 nK2)
 have db20C2:b20≠C2:=by have h9:=Mem.lt_of_get g146;exact Nat.ne_of_lt (Nat.lt_of_lt_of_le h9 nC2)
 have db20K2:b20≠K2:=by have h9:=Mem.lt_of_get g146;exact Nat.ne_of_lt (Nat.lt_of_lt_of_le h9 nK2)
 have db71C2:b71≠C2:=by have h9:=Mem.lt_of_get g148;exact Nat.ne_of_lt (Nat.lt_of_lt_of_le h9 nC2)
 have db71K2:b71≠K2:=by have h9:=Mem.lt_of_get g148;exact Nat.ne_of_lt (Nat.lt_of_lt_of_le h9 nK2)
 have db90C2:b90≠C2:=by have h9:=Mem.lt_of_get g149;exact Nat.ne_of_lt (Nat.lt_of_lt_of_le h9 nC2)
 have db90K2:b90≠K2:=by have h9:=Mem.lt_of_get g149;exact Nat.ne_of_lt (Nat.lt_of_lt_of_le h9 nK2)
 have db107C2:b107≠C2:=by have h9:=Mem.lt_of_get g150;exact Nat.ne_of_lt (Nat.lt_of_lt_of_le h9 nC2)
 have db107K2:b107≠K2:=by have h9:=Mem.lt_of_get g150;exact Nat.ne_of_lt (Nat.lt_of_lt_of_le h9 nK2)
 obtain⟨M171,q172,g173,kp174,X175,hM176,nx177⟩:=store_t (o:=6) (v:=(pt C2 0)) (new:= [i64 ((n:Int)),.slice a39 es.length c40,sli b71 0 n (n+1),sln,sli b90 0 n (n+1),sli b107 0 n (n+1),pt C2 0,sli b10 0 n (n+1)]) X170 nb20 hM159 dS51 g165 rfl rfl (Nat.zero_le _) (Nat.le_of_ble_eq_true rfl) rfl
 replace g173:M171.get b20=some ⟨[i64 ((n:Int)),.slice a39 es.length c40,sli b71 0 n (n+1),sln,sli b90 0 n (n+1),sli b107 0 n (n+1),pt C2 0,sli b10 0 n (n+1)],53,8,0,true⟩:=g173
 have g180:=(kp174 _ db10b20).trans g164
 have g182:=(kp174 _ (Ne.symm db20b71)).trans g167
 have g183:=(kp174 _ (Ne.symm db20b90)).trans g168
 have g184:=(kp174 _ (Ne.symm db20b107)).trans g169
 have g185:=(kp174 _ (Ne.symm db20C2)).trans gC2
 have g186:=(kp174 _ (Ne.symm db20K2)).trans gK2
 have dC2K2:=dCK2
 have hlob20:b20<R31.next:=by first|omega|exact Mem.lt_of_get (by assumption)
 have hlob10:b10<R31.next:=by first|omega|exact Mem.lt_of_get (by assumption)
 have hesF:pEdges es (.slice a39 es.length c40) (hidx ((⟨b20,C2,K2,b10,b71,b90,b107⟩:BK).hideS sln) M171):=AP.ext (R:=pEdges) (fun id b hg=>by rw[hidx_get] at hg;simp only [hidden_con,hidden_nil,and_true] at hg;obtain⟨⟨hq0,hq1,hq2,hq3,hq4⟩,hg2⟩:=hg;have hl:=Mem.lt_of_get hg2;rw[hids_get];exact⟨⟨(Nat.ne_of_gt (Nat.lt_of_lt_of_le hlob20 (Nat.le_of_not_lt (fun e=>hq4 ⟨Nat.zero_le _,e⟩)))),fun e=>by simp only [BK.ids,List.mem_cons,List.not_mem_nil,or_false] at e;rcases e with e|e|e|e|e|e|e<;>first|exact(Nat.ne_of_gt (Nat.lt_of_lt_of_le hlob20 (Nat.le_of_not_lt (fun e=>hq4 ⟨Nat.zero_le _,e⟩)))) e|exact(Nat.ne_of_lt (Nat.lt_of_lt_of_le hl nC2)) e|exact(Nat.ne_of_lt (Nat.lt_of_lt_of_le hl nK2)) e|exact(Nat.ne_of_gt (Nat.lt_of_lt_of_le hlob10 (Nat.le_of_not_lt (fun e=>hq4 ⟨Nat.zero_le _,e⟩)))) e|exact(ne_hid hq2) e|exact(ne_hid hq1) e|exact(ne_hid hq0) e,Nat.le_of_lt (Nat.lt_of_lt_of_le hlob10 (Nat.le_of_not_lt (fun e=>hq4 ⟨Nat.zero_le _,e⟩)))⟩,((fun id h _=>kp174 id h) id (Nat.ne_of_gt (Nat.lt_of_lt_of_le hlob20 (Nat.le_of_not_lt (fun e=>hq4 ⟨Nat.zero_le _,e⟩)))) (Mem.lt_of_get (E158.old hg2))).trans (E158.old hg2)⟩) F151
 have hPB:PBld 53 73 42 22 46 ⟨(⟨b20,C2,K2,b10,b71,b90,b107⟩:BK),n,es,.slice a39 es.length c40,sln,⟨⟨[],noneL n⟩,List.replicate n false,List.replicate n (-1),List.replicate n [],List.replicate n []⟩,List.replicate n sln,List.replicate n sln⟩ M171:=⟨g173,g185,g186,(by rw[List.map_replicate];exact g180),(by rw[List.map_replicate];exact g182),g183,g184,.inl ⟨rfl,rfl⟩,fun i hi=>by simp only [BK.ids,List.mem_cons,List.not_mem_nil,or_false] at hi;rcases hi with e|e|e|e|e|e|e<;>(rw[e];show b10≤_;omega),nd7i db20C2 db20K2 (Ne.symm db10b20) db20b71 db20b90 db20b107 dC2K2 (Ne.symm db10C2) (Ne.symm db71C2) (Ne.symm db90C2) (Ne.symm db107C2) (Ne.symm db10K2) (Ne.symm db71K2) (Ne.symm db90K2) (Ne.symm db107K2) db10b71 db10b90 db10b107 db71b90 db71b107 db90b107,hesF,Go.Am.RowsIn.none,Go.Am.RowsIn.none⟩
 have hraw:oT Try.prog [] 60 Try.f21 q21 [.agg ⟨[i64 ((n:Int)),.slice ea es.length ec]⟩] M [ttV 1 (pt b1 0) M2,ttL 7 (i64 ((n:Int))),ttV 9 (sli b10 0 n (n+1)) M11,ttV 13 (pt b20 0) M21,ttL 21 (i64 ((n:Int))),ttL 25 (.slice ea es.length ec),ttV 27 (.slice a39 es.length c40) M44,ttV 31 (sli b57 0 1 2) (Mem.mk M58.blks M58.next (hides 0 [⟨5,1,M21.next,M44.next⟩,⟨4,1,M21.next,M21.next⟩]++M21.hide) M58.log),ttL 35 (i64 ((n:Int))),ttV 37 (sli b71 0 n (n+1)) M74,ttL 41 (i64 ((n:Int))),ttV 43 (sli b90 0 n (n+1)) (Mem.mk M91.blks M91.next (hides 6144 [⟨10,1,M58.next,M74.next⟩,⟨7,1,M44.next,M58.next⟩,⟨5,1,M21.next,M44.next⟩,⟨4,1,M21.next,M21.next⟩]++M21.hide) M91.log),ttL 47 (i64 ((n:Int))),ttV 49 (sli b107 0 n (n+1)) (Mem.mk M108.blks M108.next (hides 49152 [⟨13,1,M74.next,M91.next⟩,⟨10,1,M58.next,M74.next⟩,⟨7,1,M44.next,M58.next⟩,⟨5,1,M21.next,M44.next⟩,⟨4,1,M21.next,M21.next⟩]++M21.hide) M108.log),ttS 57 M125,ttL 63 (i64 ((n:Int))),ttV 69 (pt C2 0) M154,ttS 75 M171] 2=some (.ret,some (pt b20 0),M171,[.eq (abox Try.prog 26 (.agg ⟨[i64 ((n:Int)),.slice ea es.length ec]⟩) M) (1,.val (pt b1 0),M2),qL 3 b1 0 M2 (i64 ((n:Int))),.eq (amakeSlice Try.prog 35 (i64 ((n:Int))) (i64 ((n:Int))) M2) (1,.val (sli b10 0 n (n+1)),M11),.eq (abox Try.prog 53 (.agg ⟨[i64 0,sln,sln,sln,sln,sln,.pointer none,sli b10 0 n (n+1)]⟩) M11) (1,.val (pt b20 0),M21),qL 3 b1 0 (Mem.mk M21.blks M21.next M21.hide []) (i64 ((n:Int))),qT (Nat.blt b1 M21.next),qL 24 b1 1 (Mem.mk M21.blks M21.next M21.hide []) (.slice ea es.length ec),qC 43 [.slice ea es.length ec] (Mem.mk M21.blks M21.next M21.hide []) (.slice a39 es.length c40) M44,.eq (abuildSlice Try.prog 22 1 [(0,(i64 (-1)))] (Mem.mk M44.blks M44.next (hides 0 [⟨5,1,M21.next,M44.next⟩,⟨4,1,M21.next,M21.next⟩]++M21.hide) M44.log)) (1,.val (sli b57 0 1 2),(Mem.mk M58.blks M58.next (hides 0 [⟨5,1,M21.next,M44.next⟩,⟨4,1,M21.next,M21.next⟩]++M21.hide) M58.log)),qL 3 b1 0 (Mem.mk (Mem.mk M58.blks M58.next (hides 0 [⟨5,1,M21.next,M44.next⟩,⟨4,1,M21.next,M21.next⟩]++M21.hide) M58.log).blks (Mem.mk M58.blks M58.next (hides 0 [⟨5,1,M21.next,M44.next⟩,⟨4,1,M21.next,M21.next⟩]++M21.hide) M58.log).next (hides 256 [⟨7,1,M44.next,(Mem.mk M58.blks M58.next (hides 0 [⟨5,1,M21.next,M44.next⟩,⟨4,1,M21.next,M21.next⟩]++M21.hide) M58.log).next⟩,⟨5,1,M21.next,M44.next⟩,⟨4,1,M21.next,M21.next⟩]++M21.hide) (Mem.mk M58.blks M58.next (hides 0 [⟨5,1,M21.next,M44.next⟩,⟨4,1,M21.next,M21.next⟩]++M21.hide) M58.log).log) (i64 ((n:Int))),qT (Nat.blt b1 M21.next),qC 44 [sli b57 0 1 2,i64 ((n:Int))] (Mem.mk (Mem.mk M58.blks M58.next (hides 0 [⟨5,1,M21.next,M44.next⟩,⟨4,1,M21.next,M21.next⟩]++M21.hide) M58.log).blks (Mem.mk M58.blks M58.next (hides 0 [⟨5,1,M21.next,M44.next⟩,⟨4,1,M21.next,M21.next⟩]++M21.hide) M58.log).next M21.hide (Mem.mk M58.blks M58.next (hides 0 [⟨5,1,M21.next,M44.next⟩,⟨4,1,M21.next,M21.next⟩]++M21.hide) M58.log).log) (sli b71 0 n (n+1)) M74,qL 3 b1 0 (Mem.mk M74.blks M74.next (hides 2048 [⟨10,1,(Mem.mk M58.blks M58.next (hides 0 [⟨5,1,M21.next,M44.next⟩,⟨4,1,M21.next,M21.next⟩]++M21.hide) M58.log).next,M74.next⟩,⟨7,1,M44.next,(Mem.mk M58.blks M58.next (hides 0 [⟨5,1,M21.next,M44.next⟩,⟨4,1,M21.next,M21.next⟩]++M21.hide) M58.log).next⟩,⟨5,1,M21.next,M44.next⟩,⟨4,1,M21.next,M21.next⟩]++M21.hide) M74.log) (i64 ((n:Int))),qT (Nat.blt b1 M21.next),.eq (amakeSlice Try.prog 29 (i64 ((n:Int))) (i64 ((n:Int))) (Mem.mk M74.blks M74.next (hides 6144 [⟨10,1,(Mem.mk M58.blks M58.next (hides 0 [⟨5,1,M21.next,M44.next⟩,⟨4,1,M21.next,M21.next⟩]++M21.hide) M58.log).next,M74.next⟩,⟨7,1,M44.next,(Mem.mk M58.blks M58.next (hides 0 [⟨5,1,M21.next,M44.next⟩,⟨4,1,M21.next,M21.next⟩]++M21.hide) M58.log).next⟩,⟨5,1,M21.next,M44.next⟩,⟨4,1,M21.next,M21.next⟩]++M21.hide) M74.log)) (1,.val (sli b90 0 n (n+1)),(Mem.mk M91.blks M91.next (hides 6144 [⟨10,1,M58.next,M74.next⟩,⟨7,1,M44.next,M58.next⟩,⟨5,1,M21.next,M44.next⟩,⟨4,1,M21.next,M21.next⟩]++M21.hide) M91.log)),qL 3 b1 0 (Mem.mk (Mem.mk M91.blks M91.next (hides 6144 [⟨10,1,M58.next,M74.next⟩,⟨7,1,M44.next,M58.next⟩,⟨5,1,M21.next,M44.next⟩,⟨4,1,M21.next,M21.next⟩]++M21.hide) M91.log).blks (Mem.mk M91.blks M91.next (hides 6144 [⟨10,1,M58.next,M74.next⟩,⟨7,1,M44.next,M58.next⟩,⟨5,1,M21.next,M44.next⟩,⟨4,1,M21.next,M21.next⟩]++M21.hide) M91.log).next (hides 16384 [⟨13,1,M74.next,(Mem.mk M91.blks M91.next (hides 6144 [⟨10,1,M58.next,M74.next⟩,⟨7,1,M44.next,M58.next⟩,⟨5,1,M21.next,M44.next⟩,⟨4,1,M21.next,M21.next⟩]++M21.hide) M91.log).next⟩,⟨10,1,(Mem.mk M58.blks M58.next (hides 0 [⟨5,1,M21.next,M44.next⟩,⟨4,1,M21.next,M21.next⟩]++M21.hide) M58.log).next,M74.next⟩,⟨7,1,M44.next,(Mem.mk M58.blks M58.next (hides 0 [⟨5,1,M21.next,M44.next⟩,⟨4,1,M21.next,M21.next⟩]++M21.hide) M58.log).next⟩,⟨5,1,M21.next,M44.next⟩,⟨4,1,M21.next,M21.next⟩]++M21.hide) (Mem.mk M91.blks M91.next (hides 6144 [⟨10,1,M58.next,M74.next⟩,⟨7,1,M44.next,M58.next⟩,⟨5,1,M21.next,M44.next⟩,⟨4,1,M21.next,M21.next⟩]++M21.hide) M91.log).log) (i64 ((n:Int))),qT (Nat.blt b1 M21.next),.eq (amakeSlice Try.prog 29 (i64 ((n:Int))) (i64 ((n:Int))) (Mem.mk (Mem.mk M91.blks M91.next (hides 6144 [⟨10,1,M58.next,M74.next⟩,⟨7,1,M44.next,M58.next⟩,⟨5,1,M21.next,M44.next⟩,⟨4,1,M21.next,M21.next⟩]++M21.hide) M91.log).blks (Mem.mk M91.blks M91.next (hides 6144 [⟨10,1,M58.next,M74.next⟩,⟨7,1,M44.next,M58.next⟩,⟨5,1,M21.next,M44.next⟩,⟨4,1,M21.next,M21.next⟩]++M21.hide) M91.log).next (hides 49152 [⟨13,1,M74.next,(Mem.mk M91.blks M91.next (hides 6144 [⟨10,1,M58.next,M74.next⟩,⟨7,1,M44.next,M58.next⟩,⟨5,1,M21.next,M44.next⟩,⟨4,1,M21.next,M21.next⟩]++M21.hide) M91.log).next⟩,⟨10,1,(Mem.mk M58.blks M58.next (hides 0 [⟨5,1,M21.next,M44.next⟩,⟨4,1,M21.next,M21.next⟩]++M21.hide) M58.log).next,M74.next⟩,⟨7,1,M44.next,(Mem.mk M58.blks M58.next (hides 0 [⟨5,1,M21.next,M44.next⟩,⟨4,1,M21.next,M21.next⟩]++M21.hide) M58.log).next⟩,⟨5,1,M21.next,M44.next⟩,⟨4,1,M21.next,M21.next⟩]++M21.hide) (Mem.mk M91.blks M91.next (hides 6144 [⟨10,1,M58.next,M74.next⟩,⟨7,1,M44.next,M58.next⟩,⟨5,1,M21.next,M44.next⟩,⟨4,1,M21.next,M21.next⟩]++M21.hide) M91.log).log)) (1,.val (sli b107 0 n (n+1)),(Mem.mk M108.blks M108.next (hides 49152 [⟨13,1,M74.next,M91.next⟩,⟨10,1,M58.next,M74.next⟩,⟨7,1,M44.next,M58.next⟩,⟨5,1,M21.next,M44.next⟩,⟨4,1,M21.next,M21.next⟩]++M21.hide) M108.log)),qS 31 b20 0 (.agg ⟨[i64 ((n:Int)),.slice a39 es.length c40,sli b71 0 n (n+1),sln,sli b90 0 n (n+1),sli b107 0 n (n+1)]⟩) (Mem.mk (Mem.mk M108.blks M108.next (hides 49152 [⟨13,1,M74.next,M91.next⟩,⟨10,1,M58.next,M74.next⟩,⟨7,1,M44.next,M58.next⟩,⟨5,1,M21.next,M44.next⟩,⟨4,1,M21.next,M21.next⟩]++M21.hide) M108.log).blks (Mem.mk M108.blks M108.next (hides 49152 [⟨13,1,M74.next,M91.next⟩,⟨10,1,M58.next,M74.next⟩,⟨7,1,M44.next,M58.next⟩,⟨5,1,M21.next,M44.next⟩,⟨4,1,M21.next,M21.next⟩]++M21.hide) M108.log).next M21.hide (Mem.mk M108.blks M108.next (hides 49152 [⟨13,1,M74.next,M91.next⟩,⟨10,1,M58.next,M74.next⟩,⟨7,1,M44.next,M58.next⟩,⟨5,1,M21.next,M44.next⟩,⟨4,1,M21.next,M21.next⟩]++M21.hide) M108.log).log) M125,qT (apartN [b1,b1,b1,b1] M125.log),qL 3 b1 0 (Mem.mk M125.blks M125.next M21.hide (M125.log++M21.log)) (i64 ((n:Int))),qC 45 [i64 ((n:Int)),.func (.func 46) ⟨[pt b20 0]⟩ ⟨[]⟩] (Mem.mk M125.blks M125.next M21.hide (M125.log++M21.log)) (pt C2 0) M154,qS 51 b20 6 (pt C2 0) M154 M171]):=by kernel_rfl
 dsimp only at hraw
 have rw0:Mem.mk M21.blks M21.next M21.hide []=R31:=eR32.symm
 have rw2:Mem.mk M58.blks M58.next M21.hide M58.log=M58:=by rw[(show M21.hide=M58.hide from((X30).hide.trans (X70).hide.symm))]
 have rw3:Mem.mk M58.blks M58.next (hides 256 [⟨7,1,M44.next,M58.next⟩,⟨5,1,M21.next,M44.next⟩,⟨4,1,M21.next,M21.next⟩]++M21.hide) M58.log=hidx (hides 256 [⟨7,1,M44.next,M58.next⟩,⟨5,1,M21.next,M44.next⟩,⟨4,1,M21.next,M21.next⟩]) M58:=by rw[(show M21.hide=M58.hide from((X30).hide.trans (X70).hide.symm))];rfl
 have rw5:Mem.mk M74.blks M74.next (hides 2048 [⟨10,1,M58.next,M74.next⟩,⟨7,1,M44.next,M58.next⟩,⟨5,1,M21.next,M44.next⟩,⟨4,1,M21.next,M21.next⟩]++M21.hide) M74.log=hidx (hides 2048 [⟨10,1,M58.next,M74.next⟩,⟨7,1,M44.next,M58.next⟩,⟨5,1,M21.next,M44.next⟩,⟨4,1,M21.next,M21.next⟩]) M74:=by rw[(show M21.hide=M74.hide from((X30).hide.trans (X88).hide.symm))];rfl
 have rw7:Mem.mk M91.blks M91.next (hides 16384 [⟨13,1,M74.next,M91.next⟩,⟨10,1,M58.next,M74.next⟩,⟨7,1,M44.next,M58.next⟩,⟨5,1,M21.next,M44.next⟩,⟨4,1,M21.next,M21.next⟩]++M21.hide) M91.log=hidx (hides 16384 [⟨13,1,M74.next,M91.next⟩,⟨10,1,M58.next,M74.next⟩,⟨7,1,M44.next,M58.next⟩,⟨5,1,M21.next,M44.next⟩,⟨4,1,M21.next,M21.next⟩]) M91:=by rw[(show M21.hide=M91.hide from((X30).hide.trans (X106).hide.symm))];rfl
 have rw8:Mem.mk M108.blks M108.next M21.hide M108.log=M108:=by rw[(show M21.hide=M108.hide from((X30).hide.trans (X124).hide.symm))]
 have rw10:(Mem.mk M125.blks M125.next M21.hide (M125.log++M21.log))=(Mem.mk M125.blks M125.next M125.hide (M125.log++M21.log)):=by rw[(show M21.hide=M125.hide from((X30).hide.trans (X129).hide.symm))]
 have rw11:(Mem.mk M125.blks M125.next M125.hide (M125.log++M21.log))=M140:=ef141.symm
 try rw[rw0] at hraw
 try rw[rw2] at hraw
 try rw[rw3] at hraw
 try rw[rw5] at hraw
 try rw[rw7] at hraw
 try rw[rw8] at hraw
 try rw[rw10] at hraw
 try rw[rw11] at hraw
 exact⟨pt b20 0,M171,Ev.told_tmp noNumP mixedP Try.func21 q21_ok (by kernel_rfl) rK21 (fun B=>sb0 (sbQ 43 Q43 (sbQ 44 Q44 (sbQ 45 Q45A (sbN _))))) (fun _ _=>rfl) hraw (hk (q_eq (by rw[←eb3,←em4];kernel_rfl) Nat.one_ne_zero) (hk (lC dC3 g5 rfl) (hk (q_eq em13 Nat.one_ne_zero) (hk (q_eq (by rw[←eb22,←em23];kernel_rfl) Nat.one_ne_zero) (hk (lC dC3 g36 rfl) (hk (q_lt ltb1M21) (hk (lC dC24 g36 rfl) (hk (q_call rfl p45 l46 e47) (hk (q_eq (by rw[←eb59,←em60];kernel_rfl) Nat.one_ne_zero) (hk (lC dC3 (hidx_get.2 ⟨hides_low (by simp;omega),g65⟩) rfl) (hk (q_lt ltb1M21) (hk (q_call rfl p75 l76 e77) (hk (lC dC3 (hidx_get.2 ⟨hides_low (by simp;omega),g83⟩) rfl) (hk (q_lt ltb1M21) (hk (q_eq (em93 _) Nat.one_ne_zero) (hk (lC dC3 (hidx_get.2 ⟨hides_low (by simp;omega),g100⟩) rfl) (hk (q_lt ltb1M21) (hk (q_eq (em110 _) Nat.one_ne_zero) (hk (q_st q126) (hk (q_apart (by rw[lg139];simp<;>omega)) (hk (lC dC3 g144 rfl) (hk (q_call rfl p155 l156 e157) (hk (q_st q172) hn))))))))))))))))))))))),X175,hM176,⟨(⟨b20,C2,K2,b10,b71,b90,b107⟩:BK),_,rfl,fun i hi=>by simp only [BK.ids,List.mem_cons,List.not_mem_nil,or_false] at hi;rcases hi with e|e|e|e|e|e|e<;>(rw[e];omega),hPB⟩⟩
instance:AQ pNB:=⟨fun hE ⟨k,ev,h1,h2,h3⟩=>⟨k,ev,h1,h2,h3.old hE⟩⟩
abbrev Q21:=FC (asP (as1 pNetN) fun x:Nat×List E4=>(1≤x.1∧x.1≤24)∧x.2.length≤400) pNB id
theorem con21{x:Nat×List E4}{lv:List Value}{M:Mem}(hM:MemOk M)(h:(asP (as1 pNetN) fun x:Nat×List E4=>(1≤x.1∧x.1≤24)∧x.2.length≤400) x lv M): ∃v M',Con Try.prog [] 21 Q21 lv M v M':=by
 refine FC.con h ?_
 obtain⟨⟨g0,rfl,k0⟩,h1,h2⟩:=h
 obtain⟨n,es⟩:=x
 obtain⟨L,rfl,hes⟩:=k0
 obtain⟨ea,ec,rfl⟩:=GRowsAt.form hes
 obtain⟨v,M',q1,q2,_,q3⟩:=hw21 n es ea ec hM hes h2 h1
 exact⟨v,M',q1,q2,q3⟩
theorem rBo(v r bB C K G R U D n rb ro rc m i:Nat)(es:List E4)(ev S:Value)(s0:HB)(gone:List Bool)(rank:List Int)(up down:List (List Int))(us ds:List Value){M M0:Mem}(hM:MemOk M)(X0:Ext M0 M)(h0:M0.next=G)(hb:PBld 53 73 42 22 46 ⟨⟨bB,C,K,G,R,U,D⟩,n,es,ev,S,⟨s0,gone,rank,up,down⟩,us,ds⟩ M)(hv:v<n)(hrl:rank.length=n)(hok:okLe ⟨⟨bB,C,K,G,R,U,D⟩,n,es,ev,S,⟨s0,gone,rank.set v (i:Int),up,down⟩,us,ds⟩ v)(cc0:(decide (((i:Int))<((m:Int))))=true)(hld0:aload Try.prog 3 ⟨rb,ro+((i:Int):Int).toNat*1,none⟩ M=some (i64 ((v:Int))))(hof1:0+((v:Int):Int).toNat*1+1≤((rank.map i64)).length): ∃T1 M' S15 u16 d17,Rd Try.prog [] (q11.loopAt 0) Try.f11.ntmps (fr [(2,(pt r 0)),(3,(pt bB 0)),(15,(sli rb ro m rc)),(16,(i64 ((m:Int)))),(17,(i64 ((i:Int))))]) M .normal T1 M'∧ [2,3,15,16,17].map T1.get= [some (pt r 0),some (pt bB 0),some (sli rb ro m rc),some (i64 ((m:Int))),some (i64 (IntKind.wrap .i64 (((i:Int))+(1:Int))))]∧Ext M0 M'∧MemOk M'∧PBld 53 73 42 22 46 ⟨⟨bB,C,K,G,R,U,D⟩,n,es,ev,S15,leaveH n ⟨s0,gone,rank.set v (i:Int),up,down⟩ v,u16,d17⟩ M'∧FrB (⟨bB,C,K,G,R,U,D⟩:BK) S M S15 M':=by
 have gbB:M.get bB=some ⟨[i64 n,ev,sli R 0 n (n+1),S,sli U 0 n (n+1),sli D 0 n (n+1),pt C 0,sli G 0 n (n+1)],53,8,0,true⟩:=hb.gB
 have gC:M.get C=some ⟨[i64 n,sli K 0 (n*n*5) (n*n*5+1),.func (.func 46) ⟨[pt bB 0]⟩ ⟨[]⟩],73,3,0,true⟩:=hb.gC
 have gK:M.get K=some ⟨s0.cur.map i64,3,1,0,true⟩:=hb.gK
 have gG:M.get G=some ⟨gone.map Value.bool,4,1,0,true⟩:=hb.gG
 have gR:M.get R=some ⟨rank.map i64,3,1,0,true⟩:=hb.gR
 have gU:M.get U=some ⟨us,22,1,0,true⟩:=hb.gU
 have gD:M.get D=some ⟨ds,22,1,0,true⟩:=hb.gD
 have nG:M0.next≤G:=by rw[h0];exact hb.lo G (by simp [BK.ids])
 have nR:M0.next≤R:=by rw[h0];exact hb.lo R (by simp [BK.ids])
 have hnd:([bB,C,K,G,R,U,D]:List Nat).Nodup:=hb.nd
 obtain⟨dbBC,dbBK,dbBG,dbBR,dbBU,dbBD,dCK,dCG,dCR,dCU,dCD,dKG,dKR,dKU,dKD,dGR,dGU,dGD,dRU,dRD,dUD⟩:=nd7 hnd
 have hA0:AccC 42 7 M0 [bB,C,K,G,R,U,D] s0.arcs.length ((s0.arcs.map aRow).flatten) S M:=hb.acc.acc (Nat.le_of_eq h0)
 obtain⟨M1,q2,g3,kp4,X5,hM6,nx7⟩:=store_t (o:=0+((v:Int):Int).toNat*1) (v:=(i64 ((i:Int)))) (new:=splice (rank.map i64) (0+((v:Int):Int).toNat*1) [i64 ((i:Int))]) X0 nR hM dS3 gR rfl rfl (Nat.zero_le _) hof1 rfl
 replace g3:M1.get R=some ⟨splice (rank.map i64) (0+((v:Int):Int).toNat*1) [i64 ((i:Int))],3,1,0,true⟩:=g3
 have A8:=hA0.keep (by simp) (fun id h _=>kp4 id h)
 have g9:=(kp4 _ dbBR).trans gbB
 have g10:=(kp4 _ dCR).trans gC
 have g11:=(kp4 _ dKR).trans gK
 have g12:=(kp4 _ dGR).trans gG
 have g13:=(kp4 _ (Ne.symm dRU)).trans gU
 have g14:=(kp4 _ (Ne.symm dRD)).trans gD
 have nxsM1:=astore_next q2
 rw[Go.Am.ints_at (by rw[hrl];exact hv)] at g3
 have hkp: ∀id k,M.get id=some k→ ¬(id=(⟨bB,C,K,G,R,U,D⟩:BK).a S∨id∈ [bB,C,K,G,R,U,D])→M1.get id=some k:=fun id k g hown=>by
  have hi0:id∉ [bB,C,K,G,R,U,D]:=fun e=>hown (.inr e)
  simp only [List.mem_cons,List.not_mem_nil,or_false,not_or] at hi0
  obtain⟨h_bB,h_C,h_K,h_G,h_R,h_U,h_D⟩:=hi0
  have g:=((fun id h _=>kp4 id h) id h_R (Mem.lt_of_get g)).trans g
  exact g
 have hb2:PBld 53 73 42 22 46 ⟨⟨bB,C,K,G,R,U,D⟩,n,es,ev,S,⟨s0,gone,rank.set v (i:Int),up,down⟩,us,ds⟩ M1:=PBld.next (x:=⟨⟨bB,C,K,G,R,U,D⟩,n,es,ev,S,⟨s0,gone,rank,up,down⟩,us,ds⟩) (s:=⟨s0,gone,rank.set v (i:Int),up,down⟩) hb hkp (.inl rfl) g9 g10 g11 g12 g3 g13 g14 (ArcsAt.of_acc (A8.less (fun x hx=>hx)) rfl rfl (Nat.le_of_eq h0.symm)) (hb.up.ext (hids_keep (x:=⟨⟨bB,C,K,G,R,U,D⟩,n,es,ev,S,⟨s0,gone,rank,up,down⟩,us,ds⟩) hkp (.inl rfl))) (hb.down.ext (hids_keep (x:=⟨⟨bB,C,K,G,R,U,D⟩,n,es,ev,S,⟨s0,gone,rank,up,down⟩,us,ds⟩) hkp (.inl rfl)))
 obtain⟨t20,w21,M22,hc23,X24,hM25,nx26,kp27,hR28⟩:=call_ob (P:=Try.prog) (o:=ob24) (f:=24) (x:=(⟨⟨bB,C,K,G,R,U,D⟩,n,es,ev,S,⟨s0,gone,rank.set v (i:Int),up,down⟩,us,ds⟩,v)) (l:= [pt bB 0,i64 ((v:Int))]) hM6 X5 (nG) (Nat.le_of_lt (Mem.lt_of_get g12)) (⟨rfl,hb2,hok⟩) con24
 obtain⟨S15,u16,d17,_,hb18,hS19,rfl⟩:=hR28
 have hF1:FrB (⟨bB,C,K,G,R,U,D⟩:BK) S M S M1:=⟨hkp,.inl rfl,by omega⟩
 have hraw:oR Try.prog [] 60 Try.f11 (q11.loopAt 0) [(2,(pt r 0)),(3,(pt bB 0)),(15,(sli rb ro m rc)),(16,(i64 ((m:Int)))),(17,(i64 ((i:Int))))] M [ttT 2,ttT 6,ttL 8 (i64 ((v:Int))),ttL 22 (sli R 0 n (n+1)),ttT 28,ttS 30 M1,.at 36 ((bif t20 then 1 else 2),.val w21,M22)] [2,3,15,16,17]=some (.normal,[some (pt r 0),some (pt bB 0),some (sli rb ro m rc),some (i64 ((m:Int))),some (i64 (IntKind.wrap .i64 (((i:Int))+(1:Int))))],M22,[qT (decide (((i:Int))<((m:Int)))),.q (.inb ((i:Int)) m) (ansB true),qL 3 rb (ro+((i:Int):Int).toNat*1) M (i64 ((v:Int))),qL 22 bB 2 M (sli R 0 n (n+1)),.q (.inb ((v:Int)) n) (ansB true),qS 3 R (0+((v:Int):Int).toNat*1) (i64 ((i:Int))) M M1,.cl 24 [pt bB 0,i64 ((v:Int))] M1 ((bif t20 then 1 else 2),.val w21,M22)]):=by cases t20<;>kernel_rfl
 obtain⟨T1,h1,h2⟩:=Rd.told noNumP mixedP (fun B=>sb0 (sbC 24 (TC.ok (Q:=(QOb (ob24))) _) (sbN _))) (fun _ _=>rfl) hraw (hk (bT cc0) (hk (q_inb (by omega) (by simp at cc0;omega)) (hk (q_ld (hld0)) (hk (lC dC22 gbB rfl) (hk (q_inb (by omega) (by omega)) (hk (q_st q2) (hk (hc23 _ rfl) hn)))))))
 exact⟨T1,M22,S15,u16,d17,h1,h2,X24,hM25,hb18,hF1.step kp27 hS19 nx26⟩
theorem rBx(r bB rc m i:Nat)(ra:Option Addr){M:Mem}(cc0:(decide (((i:Int))<((m:Int))))=false): ∃T1,Rd Try.prog [] (q11.loopAt 0) Try.f11.ntmps (fr [(2,(pt r 0)),(3,(pt bB 0)),(15,(.slice ra m rc)),(16,(i64 ((m:Int)))),(17,(i64 ((i:Int))))]) M (.exit 0) T1 M∧ [2,3].map T1.get= [some (pt r 0),some (pt bB 0)]:=by
 have hraw:oR Try.prog [] 60 Try.f11 (q11.loopAt 0) [(2,(pt r 0)),(3,(pt bB 0)),(15,(.slice ra m rc)),(16,(i64 ((m:Int)))),(17,(i64 ((i:Int))))] M [ttF 2] [2,3]=some ((.exit 0),[some (pt r 0),some (pt bB 0)],M,[qF (decide (((i:Int))<((m:Int))))]):=by kernel_rfl
 obtain⟨T1,h1,h2⟩:=Rd.told noNumP mixedP (specs_none Try.prog) (fun _ _=>rfl) hraw (hk (bF cc0) hn)
 exact⟨T1,h1,h2⟩
theorem loopGo{r bB C K G R U D n rc:Nat}{ra:Option Addr}{es:List E4}{l:List Int}{ev S:Value}{us ds:List Value}{M0 M:Mem}(hM:MemOk M)(X0:Ext M0 M)(h0:M0.next=G)(hb:PBld 53 73 42 22 46 ⟨⟨bB,C,K,G,R,U,D⟩,n,es,ev,S,goTo n es l 0,us,ds⟩ M)(hrow:pInts l (.slice ra l.length rc) (hidx ((⟨bB,C,K,G,R,U,D⟩:BK).hideS S) M))(hes:okEs n es)(hl: ∀v∈l,0≤v∧v<n)(hll:l.length≤24)(hn24:n≤24):
  ∃M',LoopR Try.prog [] (q11.loopAt 0) Try.f11.ntmps (fr [(2,pt r 0),(3,pt bB 0),(15,.slice ra l.length rc),(16,i64 l.length),(17,i64 ((0:Nat):Int))]) M (.exit 0) (fr [(2,pt r 0),(3,pt bB 0)]) M'∧Ext M0 M'∧MemOk M'∧ ∃S' us' ds',PBld 53 73 42 22 46 ⟨⟨bB,C,K,G,R,U,D⟩,n,es,ev,S',goTo n es l l.length,us',ds'⟩ M'∧FrB (⟨bB,C,K,G,R,U,D⟩:BK) S M S' M':=by
 obtain⟨⟨S',us',ds'⟩,M',h1,h2,h3,h4,h5⟩:=LoopR.for (P:=Try.prog) (GL:= []) (b:=q11.loopAt 0) (nt:=Try.f11.ntmps) (id:=0) (σ:=Value×List Value×List Value) (n:=l.length) (Inv:=fun i σ M1=>Ext M0 M1∧MemOk M1∧PBld 53 73 42 22 46 ⟨⟨bB,C,K,G,R,U,D⟩,n,es,ev,σ.1,goTo n es l i,σ.2.1,σ.2.2⟩ M1∧FrB (⟨bB,C,K,G,R,U,D⟩:BK) S M σ.1 M1)
  (F:=fun i _=> [(2,pt r 0),(3,pt bB 0),(15,.slice ra l.length rc),(16,i64 l.length),(17,i64 ((i:Nat):Int))])
  (O:=fun _=> [(2,pt r 0),(3,pt bB 0)])
  (by
   rintro i ⟨S1,us1,ds1⟩ M1 hi ⟨X1,hM1,hb1,hF⟩
   simp only at hb1 hF
   have hr1:pInts l (.slice ra l.length rc) M1:=AP.ext (R:=pInts) (fun id b hg=>(hids_get.1 (hF.hids id b hg)).2) hrow
   obtain⟨rb,ro,rfl,_⟩:=form_pos hr1 (by omega)
   have ht:l[i]?=some l[i]:=List.getElem?_eq_getElem hi
   have hv:=hl _ (List.getElem_mem hi)
   have hvn:((l[i].toNat:Nat):Int)=l[i]:=by omega
   have hld:=ld_one (P:=Try.prog) (ty:=3) hr1 ht rfl dC3
   have hG:=HG.go hes hl i (by omega)
   have e1:(2:Int)^i≤2^24:=pow2_le (by omega)
   have e2:(0:Int)≤2^i:=Int.pow_nonneg (by omega)
   have e3:i*(25*n*n)≤24*(25*24*24):=Nat.mul_le_mul (by omega) (Nat.mul_le_mul (Nat.mul_le_mul (Nat.le_refl _) hn24) hn24)
   have e4:n*n*5≤24*24*5:=Nat.mul_le_mul_right _ (Nat.mul_le_mul hn24 hn24)
   have hG2:HG n (2147483647*2^i) (n*n*5+i*(25*n*n)) {goTo n es l i with rank:=(goTo n es l i).rank.set l[i].toNat i}:=⟨hG.hi,hG.len,hG.gone,by rw[List.length_set];exact hG.rank,hG.up,hG.down⟩
   have hok:okLe ⟨⟨bB,C,K,G,R,U,D⟩,n,es,ev,S1,⟨(goTo n es l i).b,(goTo n es l i).gone,(goTo n es l i).rank.set l[i].toNat (i:Int),(goTo n es l i).up,(goTo n es l i).down⟩,us1,ds1⟩ l[i].toNat:=⟨by show n≤60;omega,by show _<n;omega,_,_,hG2,by omega,by omega,by omega⟩
   obtain⟨T1,M2,S2,us2,ds2,h1,h2,h3,h4,h5,h6⟩:=rBo l[i].toNat r bB C K G R U D n rb ro rc l.length i es ev S1 (goTo n es l i).b (goTo n es l i).gone (goTo n es l i).rank (goTo n es l i).up (goTo n es l i).down us1 ds1 hM1 X1 h0 hb1 (by omega) hG.rank hok (decide_eq_true (by omega)) (by rw[hvn];exact hld) (by rw[List.length_map,hG.rank];omega)
   rw[wrap_succ (by omega)] at h2
   refine⟨(S2,us2,ds2),T1,M2,h1,h2,h3,h4,?_,hF.trans h6⟩
   rw[goTo,ht]
   exact h5)
  (by
   rintro⟨S1,us1,ds1⟩ M1 ⟨X1,hM1,hb1,hF⟩
   exact rBx r bB rc l.length l.length ra (M:=M1) (decide_eq_false (by omega)))
  l.length 0 (by omega) (s:=(S,us,ds)) (M:=M) ⟨X0,hM,hb,FrB.refl _ _ _⟩
 exact⟨M',h1,h2,h3,S',us',ds',h4,h5⟩
theorem rK11:Try.f11.results= #[.cell 2 31]:=by kernel_rfl
theorem hw11(n:Nat)(es:List E4)(ea:Option Addr)(ec:Nat){M:Mem}(hM:MemOk M)(hes:pEdges es (.slice ea es.length ec) M)(hck:chkN (n:Int) es=true)(hn24:1≤n∧n≤24)(hel:es.length≤400)(hoe:okEs n es): ∃v_ M',Ev Try.prog [] 11 [.agg ⟨[i64 ((n:Int)),.slice ea es.length ec]⟩] M v_ M'∧Ext M M'∧MemOk M'∧newR pIx (hierX (n,es)) M.next v_ M':=by
 obtain⟨b1,M2,eb3,em4,g5,E6,hM7⟩:=new_t hM ⟨[i64 ((n:Int)),.slice ea es.length ec],26,2,0,true⟩
 have X9:=(Ext.refl M).trans E6
 obtain⟨b10,M11,eb12,em13,g14,E15,hM16⟩:=new_t hM7 ⟨[i64 0,sln,sln,sln,sln,sln],31,6,0,true⟩
 have nb10:M.next≤b10:=by rw[←eb12];exact X9.next
 have g17:=E15.old g5
 have X19:=X9.trans E15
 obtain⟨w20,N21,M22,p23,l24,e25,E26,hM27,F28⟩:=call_fc (x:=((n:Int),es)) hM16 con20 (⟨_,rfl,_,rfl,AP.Ext (R:=pEdges) hes X19⟩)
 have g30:=E26.old g17
 have g31:=E26.old g14
 have ew20:w20= .bool true:=(show w20= .bool (chkN (n:Int) es) from F28).trans (congrArg Value.bool hck)
 subst ew20
 have X32:=X19.trans E26
 obtain⟨w33,N34,M35,p36,l37,e38,E39,hM40,F41⟩:=call_fc (x:=(n,es)) hM27 con21 (⟨⟨_,rfl,_,rfl,AP.Ext (R:=pEdges) hes X32⟩,hn24,hel⟩)
 have g43:=E39.old g30
 have g44:=E39.old g31
 obtain⟨⟨bB,C,K,G,R,U,D⟩,ev,ew33,hids,hb0⟩:=F41
 subst ew33
 try simp only at hb0
 try simp only at hids
 obtain⟨e2a,e2c,eev⟩:=GRowsAt.form hb0.es
 try simp only at eev
 subst eev
 have nG:M.next≤G:=Nat.le_trans (X32).next (hids G (by simp [BK.ids]))
 have ob1:b1<G:=Nat.lt_of_lt_of_le (Mem.lt_of_get g30) (hids G (by simp [BK.ids]))
 have ob10:b10<G:=Nat.lt_of_lt_of_le (Mem.lt_of_get g31) (hids G (by simp [BK.ids]))
 have X45:=X32.trans E39
 obtain⟨t51,w52,M53,hc54,X55,hM56,nx57,kp58,hR59⟩:=call_ob (P:=Try.prog) (o:=ob22) (f:=22) (x:=(⟨⟨bB,C,K,G,R,U,D⟩,n,es,.slice e2a es.length e2c,sln,⟨⟨[],noneL n⟩,List.replicate n false,List.replicate n (-1),List.replicate n [],List.replicate n []⟩,List.replicate n sln,List.replicate n sln⟩,())) (l:= [pt bB 0]) hM40 X45 (nG) (Nat.le_of_lt hb0.gGlt) (⟨rfl,hb0,hn24,hoe,hel,rfl⟩) con22
 have g60:=kp58 _ _ g43 (fun e=>by have h9:G≤b1:=hb0.own_ge _ e;omega)
 have g61:=kp58 _ _ g44 (fun e=>by have h9:G≤b10:=hb0.own_ge _ e;omega)
 obtain⟨S46,u47,d48,_,hb49,hS50,rfl⟩:=hR59
 obtain⟨w65,N66,M67,p68,l69,e70,E71,hM72,F73⟩:=call_fc (x:=(n,es)) hM56 con23 (⟨⟨_,rfl,_,rfl,AP.Ext (R:=pEdges) hes X55⟩,hck⟩)
 have g76:=E71.old g61
 have G64:pInts (orderL n es) w65 (hidx [(0,M53.next)] M67):=hx_of F73
 obtain⟨a62,c63,ew65⟩:=GRowsAt.form G64
 subst ew65
 have hrow:=new_hid (R:=pInts) hb49.own_lt (Nat.le_refl _) G64
 have hb8:=hb49.old (fun id b h=>(E71).old h)
 have hln8:=GRowsAt.ln G64
 have X77:=X55.trans E71
 obtain⟨M78,hL79,X80,hM81,S82,u83,d84,hb85,hF86⟩:=loopGo (r:=b10) (M0:=cut G M67) hM72 (Ext.cut (Nat.le_of_lt hb8.gGlt)) rfl hb8 hrow hoe (orderL_range hck) (Nat.le_trans (orderL_len hck) hn24.2) hn24.2
 have X87:=Ext.over (X77) nG (Nat.le_of_lt hb8.gGlt) X80
 have g89:=hF86.keep _ _ g76 (fun e=>by have h9:G≤b10:=hb8.own_ge _ e;omega)
 have hGG:=HG.go hoe (orderL_range hck) (orderL n es).length (Nat.le_refl _)
 obtain⟨t95,w96,M97,hc98,X99,hM100,nx101,kp102,hR103⟩:=call_ob (P:=Try.prog) (o:=ob25) (f:=25) (x:=(⟨⟨bB,C,K,G,R,U,D⟩,n,es,.slice e2a es.length e2c,S82,goTo n es (orderL n es) (orderL n es).length,u83,d84⟩,())) (l:= [pt bB 0]) hM81 X87 (nG) (Nat.le_of_lt hb85.gGlt) (⟨rfl,hb85,(by show n≤60;omega),hGG.hi.len,hGG.gone,hGG.up⟩) con25
 have g105:=kp102 _ _ g89 (fun e=>by have h9:G≤b10:=hb85.own_ge _ e;omega)
 obtain⟨S90,u91,d92,_,hb93,hS94,rfl⟩:=hR103
 have hbE:PBld 53 73 42 22 46 ⟨⟨bB,C,K,G,R,U,D⟩,n,es,.slice e2a es.length e2c,S90,hierH n es (orderL n es),u91,d92⟩ M97:=hb93
 obtain⟨sa,sc,eS,_⟩:=ArcsAt.form hbE.acc
 try simp only at eS
 subst eS
 obtain⟨M106,q107,g108,kp109,X110,hM111,nx112⟩:=store_t (o:=0) (v:=(.agg ⟨[i64 ((n:Int)),.slice e2a es.length e2c,sli R 0 n (n+1),.slice sa (hierH n es (orderL n es)).b.arcs.length sc,sli U 0 n (n+1),sli D 0 n (n+1)]⟩)) (new:= [i64 ((n:Int)),.slice e2a es.length e2c,sli R 0 n (n+1),.slice sa (hierH n es (orderL n es)).b.arcs.length sc,sli U 0 n (n+1),sli D 0 n (n+1)]) X99 nb10 hM100 dS31 g105 rfl rfl (Nat.zero_le _) (Nat.le_of_ble_eq_true rfl) rfl
 replace g108:M106.get b10=some ⟨[i64 ((n:Int)),.slice e2a es.length e2c,sli R 0 n (n+1),.slice sa (hierH n es (orderL n es)).b.arcs.length sc,sli U 0 n (n+1),sli D 0 n (n+1)],31,6,0,true⟩:=g108
 have hE0:=hierH_len hoe (orderL_range hck) (orderL_len hck) hn24.2
 have hix:pIx (hierX (n,es)) (.agg ⟨[i64 ((n:Int)),.slice e2a es.length e2c,sli R 0 n (n+1),.slice sa (hierH n es (orderL n es)).b.arcs.length sc,sli U 0 n (n+1),sli D 0 n (n+1)]⟩) (hid M.next M106):=newR.keep (R:=pIx) nG (fun id b hid hg=>((fun id h _=>kp109 id h) id (by omega) (Mem.lt_of_get hg)).trans hg) (PBld.ix hbE hE0.2.1 hE0.2.2.1 hE0.2.2.2.1 (Nat.le_trans (Nat.le_of_lt hE0.1) (by decide)) (by show n≤60;omega))
 have hraw:oT Try.prog [0] 60 Try.f11 q11 [.agg ⟨[i64 ((n:Int)),.slice ea es.length ec]⟩] M [ttV 1 (pt b1 0) M2,ttV 3 (pt b10 0) M11,ttL 5 (.agg ⟨[i64 ((n:Int)),.slice ea es.length ec]⟩),ttV 7 (.bool true) M22,ttL 12 (.agg ⟨[i64 ((n:Int)),.slice ea es.length ec]⟩),ttV 14 (pt bB 0) M35,.at 20 ((bif t51 then 1 else 2),.val w52,M53),ttL 22 (.agg ⟨[i64 ((n:Int)),.slice ea es.length ec]⟩),ttV 24 (.slice a62 (orderL n es).length c63) M67,ttT 26,.blk 29 [2,3,15,16,17] .normal (fr [(2,(pt b10 0)),(3,(pt bB 0))]) M78,.at 33 ((bif t95 then 1 else 2),.val w96,M97),ttL 41 (.agg ⟨[i64 ((n:Int)),.slice e2a es.length e2c,sli R 0 n (n+1),.slice sa (hierH n es (orderL n es)).b.arcs.length sc,sli U 0 n (n+1),sli D 0 n (n+1)]⟩),ttS 43 M106] 2=some (.ret,some (pt b10 0),M106,[.eq (abox Try.prog 26 (.agg ⟨[i64 ((n:Int)),.slice ea es.length ec]⟩) M) (1,.val (pt b1 0),M2),.eq (aalloc Try.prog 31 M2) (1,.val (pt b10 0),M11),qL 26 b1 0 M11 (.agg ⟨[i64 ((n:Int)),.slice ea es.length ec]⟩),qC 20 [.agg ⟨[i64 ((n:Int)),.slice ea es.length ec]⟩] M11 (.bool true) M22,qL 26 b1 0 M22 (.agg ⟨[i64 ((n:Int)),.slice ea es.length ec]⟩),qC 21 [.agg ⟨[i64 ((n:Int)),.slice ea es.length ec]⟩] M22 (pt bB 0) M35,.cl 22 [pt bB 0] M35 ((bif t51 then 1 else 2),.val w52,M53),qL 26 b1 0 M53 (.agg ⟨[i64 ((n:Int)),.slice ea es.length ec]⟩),qC 23 [.agg ⟨[i64 ((n:Int)),.slice ea es.length ec]⟩] M53 (.slice a62 (orderL n es).length c63) M67,.ln a62 (orderL n es).length c63,.blk 0 (.loop (q11.loopAt 0)) Try.f11.ntmps [2,3,15,16,17] [some (pt b10 0),some (pt bB 0),some (.slice a62 (orderL n es).length c63),some (i64 ((((orderL n es).length:Nat):Int))),some (i64 0)] M67 .normal (fr [(2,(pt b10 0)),(3,(pt bB 0))]) M78,.cl 25 [pt bB 0] M78 ((bif t95 then 1 else 2),.val w96,M97),qL 31 bB 0 M97 (.agg ⟨[i64 ((n:Int)),.slice e2a es.length e2c,sli R 0 n (n+1),.slice sa (hierH n es (orderL n es)).b.arcs.length sc,sli U 0 n (n+1),sli D 0 n (n+1)]⟩),qS 31 b10 0 (.agg ⟨[i64 ((n:Int)),.slice e2a es.length e2c,sli R 0 n (n+1),.slice sa (hierH n es (orderL n es)).b.arcs.length sc,sli U 0 n (n+1),sli D 0 n (n+1)]⟩) M97 M106]):=by cases t51<;>cases t95<;>kernel_rfl
 exact⟨.agg ⟨[i64 ((n:Int)),.slice e2a es.length e2c,sli R 0 n (n+1),.slice sa (hierH n es (orderL n es)).b.arcs.length sc,sli U 0 n (n+1),sli D 0 n (n+1)]⟩,M106,Ev.told_cell noNumP mixedP Try.func11 q11_ok (by kernel_rfl) rK11 (fun B=>sb1 (sbQ 20 Q20 (sbQ 21 Q21 (sbC 22 (TC.ok (Q:=(QOb (ob22))) _) (sbQ 23 Q23 (sbC 25 (TC.ok (Q:=(QOb (ob25))) _) (sbN _)))))) 0 hL79) (fun _ h=>blksF_one h) hraw (aload_agg (a:=⟨b10,0,none⟩) dA31 dS31 g108 rfl) (hk (q_eq (by rw[←eb3,←em4];kernel_rfl) Nat.one_ne_zero) (hk (q_eq (by rw[←eb12,←em13];kernel_rfl) Nat.one_ne_zero) (hk (lA ⟨dA26,dS26⟩ g17 rfl) (hk (q_call rfl p23 l24 e25) (hk (lA ⟨dA26,dS26⟩ g30 rfl) (hk (q_call rfl p36 l37 e38) (hk (hc54 _ rfl) (hk (lA ⟨dA26,dS26⟩ g60 rfl) (hk (q_call rfl p68 l69 e70) (hk (lN hln8) (hk (q_blk rfl) (hk (hc98 _ rfl) (hk (lA ⟨dA31,dS31⟩ hbE.gB rfl) (hk (q_st q107) hn)))))))))))))),X110,hM111,hix⟩
def okBu(x:Nat×List E4):Prop:=chkN (x.1:Int) x.2=true∧x.1≤24
abbrev Q11:=FC (asP (as1 pNetN) okBu) (newR pIx) hierX
theorem con11{x:Nat×List E4}{lv:List Value}{M:Mem}(hM:MemOk M)(h:(asP (as1 pNetN) okBu) x lv M): ∃v M',Con Try.prog [] 11 Q11 lv M v M':=by
 refine FC.con h ?_
 obtain⟨⟨g0,rfl,k0⟩,hck,hn⟩:=h
 obtain⟨n,l⟩:=x
 obtain⟨_,rfl,hl⟩:=k0
 obtain⟨a,c,rfl⟩:=GRowsAt.form hl
 simp only at hck hn
 obtain⟨s1,s2,s3,s4⟩:=chkN_spec hck
 obtain⟨v,M',h1,h2,_,h3⟩:=hw11 n l a c hM hl hck ⟨by omega,hn⟩ s3 (okEs_of hck)
 exact⟨v,M',h1,h2,h3⟩
end Go.Proofs.Ytdaglldahidmbaa
