/-
  What is proved: MiniSteady: a machine of Make's is steady just if a letter twice is a letter once: for every x, y, every word. For every argument; one laid table (math/bits) is tied by the card.
-/
import Derived.Test.YtchnlooenomfnaaGreatDoorGSF6
set_option linter.unusedVariables false
set_option linter.unusedSimpArgs false
open Go Go.Am Go.Proofs
namespace Go.Proofs.YtchnlooenomfnaaGreatDoor
set_option maxRecDepth 100000
def g15 : List Value → Option Value
  | [] => some (.bool true)
  | _ => none
theorem con15c {e : TypeId} {M : Mem} (hT : M.get 0 = some (tabB e)) : ∃ v M', Con Tryz.prog [0] 15 (Fl g15) [] M v M' := ⟨.bool true, M, con15 hT, Ext.refl M, rfl⟩
theorem loopO_ret {l1 : List (List Int)} {l2 : List Bool} {a1 : Option Addr} {c1 n1 : Nat} {a2 : Option Addr} {c2 n2 : Nat} (b : Nat) (hg : l1.any (badR ((l1.length : Nat) : Int)) = false) (hlen : l1.length ≤ 1000) (e1 : l1.length = n1) (e2 : l2.length = n2) (hst : l1.all (stRow l1) = false) {M : Mem} (hM : MemOk M) (hd : DfaAt M (.agg ⟨[.slice a1 n1 c1, .slice a2 n2 c2]⟩) l1 l2) (hb : M.get b = some ⟨[.slice a1 n1 c1, .slice a2 n2 c2], 27, 2, 0, true⟩) :
    ∃ M', LoopR Tryz.prog [] (q10.loopAt 0) Tryz.f10.ntmps (fr [(9, pt b 0), (11, i64 0)]) M .ret (fr [(8, .bool true)]) M' ∧ Go.Am.Ext M M' ∧ MemOk M' := by
  subst e1 e2
  have hs : FlatAt 5 M (.slice a1 l1.length c1) l1 := by
    obtain ⟨L1, L2, e, h2, _⟩ := hd.at_
    simp only [Value.agg.injEq, Array.mk.injEq, List.cons.injEq, and_true] at e
    obtain ⟨rfl, rfl⟩ := e
    exact h2
  obtain ⟨M', e, T', h1, h2, h3⟩ := loopO b hg hlen hs.ln l1.length 0 (by omega) hM hd hb
  rcases h3 with ⟨h3, _, _⟩ | ⟨_, rfl, rfl⟩
  · have := okI_of hg hs.wide fun m hm => h3 m (Nat.zero_le _) hm
    rw [hst] at this; cases this
  · exact ⟨M', h2, h1, hM.ext h1⟩
theorem rK10 : Tryz.f10.results = #[.tmp 8] := by kernel_rfl
theorem wordI_len (ns : List Int) (mx : Nat) : (wordI 4 (ns.take mx)).length ≤ mx := by
  unfold wordI; rw [List.length_map, List.length_take]; omega
theorem hS10_15_16_20_24_37 (B : Bd) : ∀ p ∈ ([(15, pick (Con Tryz.prog [0] 15 (Fl g15))), (16, pick (Con Tryz.prog [0] 16 Qmk)), (20, pick (Con Tryz.prog [0] 20 Qstd)), (24, pick (Con Tryz.prog [0] 24 Qword)), (37, pick (Con Tryz.prog [0] 37 Qgo))] : List (FuncId × (List Value → Mem → Option (Value × Mem)))), SpecOk Tryz.prog [0] B p.1 p.2 := (fun p hp => by simp only [List.mem_cons, List.not_mem_nil, or_false] at hp; rcases hp with rfl | rfl | rfl | rfl | rfl <;> first | exact Con.ok _ | exact SpecOk.gl (Con.ok _))
theorem w10_0_raw (x : Int) (a : Option Addr) (c : Nat) (ns : List Int) (y : Int) (aw : Option Addr) (cw : Nat) (ws : List Int) (e : TypeId) (M : Mem) (M3 : Mem) (M15 : Mem) (y12s : Nat) (y12f : Nat) (b24 : Nat) (M25 : Mem) (M35 : Mem) (M46 : Mem) (M65 : Mem) (w62a : Option Addr) (w62c : Nat) (M77 : Mem) (q80a : Option Addr) (q80c : Nat) (M98 : Mem) (M119 : Mem) : oTg Tryz.prog [0] [4] 60 Tryz.f10 q10 [i64 x, (.slice a ns.length c), i64 y, (.slice aw ws.length cw)] M [ttV 3 (.bool true) M3, ttV 14 (.agg ⟨[(sli y12s 0 (nN x) (nN x)), (sli y12f 0 (nN x) (nN x))]⟩) M15, ttV 16 (pt b24 0) M25, ttS 18 M35, ttL 20 (.agg ⟨[(sli y12s 0 (nN x) (nN x)), (sli y12f 0 (nN x) (nN x))]⟩), ttV 22 (.bool ((rowsI (nOf x) ns y (nN x)).all (stRow (rowsI (nOf x) ns y (nN x))))) M46, ttF 29, ttV 33 (.slice w62a (wordI 4 (ws.take 10)).length w62c) M65, .blk 40 [9, 13, 14, 15] .normal (fr [(9, (pt b24 0)), (13, (.slice w62a (wordI 4 (ws.take 10)).length w62c)), (14, (.slice q80a (dbl (wordI 4 (ws.take 10))).length q80c))]) M77, ttL 42 (.agg ⟨[(sli y12s 0 (nN x) (nN x)), (sli y12f 0 (nN x) (nN x))]⟩), ttV 46 (i64 (goF (rowsI (nOf x) ns y (nN x)) 0 (wordI 4 (ws.take 10)))) M98, ttL 48 (.agg ⟨[(sli y12s 0 (nN x) (nN x)), (sli y12f 0 (nN x) (nN x))]⟩), ttV 52 (i64 (goF (rowsI (nOf x) ns y (nN x)) 0 (dbl (wordI 4 (ws.take 10))))) M119] 8 = some (.ret, some (.bool ((goF (rowsI (nOf x) ns y (nN x)) 0 (wordI 4 (ws.take 10))) == (goF (rowsI (nOf x) ns y (nN x)) 0 (dbl (wordI 4 (ws.take 10)))))), (Mem.mk M119.blks M119.next M77.hide (M119.log ++ M77.log)), [qC 15 [] M (.bool true) M3, qC 16 [(i64 x), (.slice a ns.length c), (i64 y)] M3 (.agg ⟨[(sli y12s 0 (nN x) (nN x)), (sli y12f 0 (nN x) (nN x))]⟩) M15, .eq (aalloc Tryz.prog 27 M15) (1, .val (pt b24 0), M25), qS 27 b24 0 (.agg ⟨[(sli y12s 0 (nN x) (nN x)), (sli y12f 0 (nN x) (nN x))]⟩) M25 M35, qL 27 b24 0 M35 (.agg ⟨[(sli y12s 0 (nN x) (nN x)), (sli y12f 0 (nN x) (nN x))]⟩), qC 20 [(.agg ⟨[(sli y12s 0 (nN x) (nN x)), (sli y12f 0 (nN x) (nN x))]⟩)] M35 (.bool ((rowsI (nOf x) ns y (nN x)).all (stRow (rowsI (nOf x) ns y (nN x))))) M46, qF (!((rowsI (nOf x) ns y (nN x)).all (stRow (rowsI (nOf x) ns y (nN x))))), qC 24 [(.slice aw ws.length cw), (i64 10), (i64 4)] M46 (.slice w62a (wordI 4 (ws.take 10)).length w62c) M65, .blk 4 (.loop (q10.loopAt 4)) Tryz.f10.ntmps [9, 13, 14, 15] [some (pt b24 0), some (.slice w62a (wordI 4 (ws.take 10)).length w62c), some sln, some (i64 0)] M65 .normal (fr [(9, (pt b24 0)), (13, (.slice w62a (wordI 4 (ws.take 10)).length w62c)), (14, (.slice q80a (dbl (wordI 4 (ws.take 10))).length q80c))]) M77, qL 27 b24 0 (Mem.mk M77.blks M77.next M77.hide []) (.agg ⟨[(sli y12s 0 (nN x) (nN x)), (sli y12f 0 (nN x) (nN x))]⟩), qC 37 [(.agg ⟨[(sli y12s 0 (nN x) (nN x)), (sli y12f 0 (nN x) (nN x))]⟩), (i64 0), (.slice w62a (wordI 4 (ws.take 10)).length w62c)] (Mem.mk M77.blks M77.next M77.hide []) (i64 (goF (rowsI (nOf x) ns y (nN x)) 0 (wordI 4 (ws.take 10)))) M98, qL 27 b24 0 (Mem.mk M98.blks M98.next (hides 0 [⟨2, 1, M77.next, M98.next⟩, ⟨0, 1, M77.next, M77.next⟩] ++ M77.hide) M98.log) (.agg ⟨[(sli y12s 0 (nN x) (nN x)), (sli y12f 0 (nN x) (nN x))]⟩), qT (Nat.blt b24 M77.next), qC 37 [(.agg ⟨[(sli y12s 0 (nN x) (nN x)), (sli y12f 0 (nN x) (nN x))]⟩), (i64 0), (.slice q80a (dbl (wordI 4 (ws.take 10))).length q80c)] (Mem.mk M98.blks M98.next M77.hide M98.log) (i64 (goF (rowsI (nOf x) ns y (nN x)) 0 (dbl (wordI 4 (ws.take 10))))) M119, qT (apartN [b24] M119.log)]) := by kernel_rfl
theorem w10_0 (x : Int) (a : Option Addr) (c : Nat) (ns : List Int) (y : Int) (aw : Option Addr) (cw : Nat) (ws : List Int) (e : TypeId) {M : Mem} (hM : MemOk M) (hT : M.get 0 = some (tabB e)) (hs : FlatAt 1 M (.slice a ns.length c) (ns.map ([·]))) (hw : FlatAt 1 M (.slice aw ws.length cw) (ws.map ([·]))) (hn9 : 1 ≤ nN x ∧ nN x ≤ 9) (cc0 : ((rowsI (nOf x) ns y (nN x)).all (stRow (rowsI (nOf x) ns y (nN x)))) = true) : ∃ M', Ev Tryz.prog [0] 10 [i64 x, (.slice a ns.length c), i64 y, (.slice aw ws.length cw)] M (.bool true) M' := by
  obtain ⟨w1, N2, M3, p4, l5, e6, E7, hM8, Q9, G10⟩ := call_t (P := Tryz.prog) (GL := [0]) (f := 15) hM (con15c (((Ext.refl M)).old hT))
  have ew1 : w1 = .bool true := (Option.some.inj Q9).symm
  subst ew1
  have X11 := (Ext.refl M).trans E7
  obtain ⟨w13, N14, M15, p16, l17, e18, E19, hM20, Q21, G22⟩ := call_t (P := Tryz.prog) (GL := [0]) (f := 16) hM8 (Con.gl (con16 x a c ns y (MemOk.log hM8) (hs.Ext X11).log))
  obtain ⟨y12s, y12f, ew13, ⟨y12n1, y12g1⟩, ⟨y12n2, y12g2⟩, dy12sy12f⟩ := Qmk.val (hs.Ext X11).log Q21
  subst ew13
  have y12m1 : M3.next ≤ y12s := y12n1
  have y12m2 : M3.next ≤ y12f := y12n2
  have y12h1 : M15.get y12s = some ⟨(irows (rowsI (nOf x) ns y (nN x))).flatten, 62, 5, 0, true⟩ := by rw [G22]; exact y12g1
  have y12h2 : M15.get y12f = some ⟨(brows (accsI y (nN x))).flatten, 4, 1, 0, true⟩ := by rw [G22]; exact y12g2
  have ny12s : M.next ≤ y12s := Nat.le_trans (X11).next y12m1
  have ny12f : M.next ≤ y12f := Nat.le_trans (X11).next y12m2
  have X23 := X11.trans E19
  obtain ⟨b24, M25, eb26, em27, g28, E29, hM30⟩ := new_t hM20 ⟨[sln, sln], 27, 2, 0, true⟩
  have nb24 : M.next ≤ b24 := by rw [← eb26]; exact X23.next
  have dy12sb24 : y12s ≠ b24 := by have := Mem.lt_of_get y12h1; omega
  have dy12fb24 : y12f ≠ b24 := by have := Mem.lt_of_get y12h2; omega
  have g31 := E29.old y12h1
  have g32 := E29.old y12h2
  have nx33 := E29.next
  have X34 := X23.trans E29
  obtain ⟨M35, q36, g37, kp38, X39, hM40, nx41⟩ := store_t (o := 0) (v := (.agg ⟨[(sli y12s 0 (nN x) (nN x)), (sli y12f 0 (nN x) (nN x))]⟩)) (new := [(sli y12s 0 (nN x) (nN x)), (sli y12f 0 (nN x) (nN x))]) X34 nb24 hM30 dS27 g28 rfl rfl (Nat.zero_le _) (Nat.le_of_ble_eq_true rfl) rfl
  replace g37 : M35.get b24 = some ⟨[(sli y12s 0 (nN x) (nN x)), (sli y12f 0 (nN x) (nN x))], 27, 2, 0, true⟩ := g37
  have g42 := (kp38 _ dy12sb24).trans g31
  have g43 := (kp38 _ dy12fb24).trans g32
  obtain ⟨w44, N45, M46, p47, l48, e49, E50, hM51, Q52, G53⟩ := call_t (P := Tryz.prog) (GL := [0]) (f := 20) hM40 (Con.gl (con20 (MemOk.log hM40) (mkAt g42 rfl g43 rfl).log))
  have g54 := E50.old g42
  have g55 := E50.old g43
  have g56 := E50.old g37
  have ew44 := Qstd.val (mkAt g42 rfl g43 rfl).log Q52
  rw [stdB, mk_right, Bool.true_and] at ew44
  subst ew44
  have X57 := X39.trans E50
  have nx58 := E50.next
  have lb59 := Mem.lt_of_get g54
  have lb60 := Mem.lt_of_get g55
  have lb61 := Mem.lt_of_get g56
  obtain ⟨w63, N64, M65, p66, l67, e68, E69, hM70, Q71, G72⟩ := call_t (P := Tryz.prog) (GL := [0]) (f := 24) hM51 (Con.gl (con24 aw cw ws 10 4 (by decide) (MemOk.log hM51) (hw.Ext X57).log))
  have g73 := E69.old g54
  have g74 := E69.old g55
  have g75 := E69.old g56
  obtain ⟨w62b, w62w⟩ := Qword.val (mx := 10) (hw.Ext X57).log Q71
  have w62f0 := w62w.flat (Nat.le_trans (wordI_len ws 10) (by decide))
  obtain ⟨w62a, w62c, ew63⟩ := w62w.shape
  subst ew63
  have w62f : FlatAt 1 M65 _ _ := w62f0.ext fun id k g => by rw [G72]; exact g
  have X76 := X57.trans E69
  obtain ⟨M77, q80S, hL78, hS79⟩ := loopD b24 (Nat.le_trans (wordI_len ws 10) (by decide)) w62f (wordI 4 (ws.take 10)).length 0 (by omega) (M := M65) (S := sln) ⟨Ext.refl _, hM70, 0, .inl ⟨rfl, rfl⟩⟩
  obtain ⟨q80b, q80w⟩ := hS79.at_
  have q80f := q80w.flat (by rw [dbl_len]; have := wordI_len ws 10; omega)
  obtain ⟨q80a, q80c, eq80⟩ := q80w.shape
  subst eq80
  have g81 := hS79.ext.old g73
  have g82 := hS79.ext.old g74
  have g83 := hS79.ext.old g75
  have hw84 := w62f.Ext hS79.ext
  have X85 := X76.trans hS79.ext
  obtain ⟨R86, eR87⟩ : ∃ m : Mem, m = Mem.mk M77.blks M77.next M77.hide [] := ⟨_, rfl⟩
  have X88 : Ext (Mem.mk M.blks M.next M.hide []) R86 := by rw [eR87]; exact Ext.aside (X85)
  have lg89 : R86.log = [] := by rw [eR87]
  have nxR86 : R86.next = M77.next := by rw [eR87]
  have hM90 : MemOk R86 := by rw [eR87]; exact MemOk.log hS79.ok
  have lty12sM77 : y12s < M77.next := by have h := Mem.lt_of_get g81; exact h
  have g91 : R86.get y12s = some ⟨(irows (rowsI (nOf x) ns y (nN x))).flatten, 62, 5, 0, true⟩ := by rw [eR87]; exact g81
  have lty12fM77 : y12f < M77.next := by have h := Mem.lt_of_get g82; exact h
  have g92 : R86.get y12f = some ⟨(brows (accsI y (nN x))).flatten, 4, 1, 0, true⟩ := by rw [eR87]; exact g82
  have ltb24M77 : b24 < M77.next := by have h := Mem.lt_of_get g83; exact h
  have g93 : R86.get b24 = some ⟨[(sli y12s 0 (nN x) (nN x)), (sli y12f 0 (nN x) (nN x))], 27, 2, 0, true⟩ := by rw [eR87]; exact g83
  have hw94 : FlatAt 1 R86 _ _ := hw84.ext (fun id k g => by rw [eR87]; exact g)
  have hw95 : FlatAt 1 R86 _ _ := q80f.ext (fun id k g => by rw [eR87]; exact g)
  obtain ⟨w96, N97, M98, p99, l100, e101, E102, hM103, Q104, G105⟩ := call_t (P := Tryz.prog) (GL := [0]) (f := 37) hM90 (Con.gl (con37 0 (MemOk.log hM90) (mkAt g91 rfl g92 rfl).log hw94.log (mk_good _ _ _)))
  have g106 := E102.old g91
  have g107 := E102.old g92
  have g108 := E102.old g93
  have ew96 := Qgo.val (mkAt g91 rfl g92 rfl).log hw94.log Q104
  subst ew96
  have lg109 : M98.log = [] := by rw [← e101]; exact lg89
  have X110 := X88.trans E102
  have hw111 := hw94.Ext E102
  have hw112 := hw95.Ext E102
  have nx113 := E102.next
  have lb114 := Mem.lt_of_get g106
  have lb115 := Mem.lt_of_get g107
  have lb116 := Mem.lt_of_get g108
  obtain ⟨w117, N118, M119, p120, l121, e122, E123, hM124, Q125, G126⟩ := call_t (P := Tryz.prog) (GL := [0]) (f := 37) hM103 (Con.gl (con37 0 (MemOk.log hM103) (mkAt g106 rfl g107 rfl).log hw112.log (mk_good _ _ _)))
  have g127 := E123.old g106
  have g128 := E123.old g107
  have g129 := E123.old g108
  have ew117 := Qgo.val (mkAt g106 rfl g107 rfl).log hw112.log Q125
  subst ew117
  have lg130 : M119.log = [] := by rw [← e122]; exact lg109
  have X131 := X110.trans E123
  have hw132 := hw111.Ext E123
  have hw133 := hw112.Ext E123
  have nx134 := E123.next
  have lb135 := Mem.lt_of_get g127
  have lb136 := Mem.lt_of_get g128
  have lb137 := Mem.lt_of_get g129
  obtain ⟨M138, ef139⟩ : ∃ m : Mem, m = (Mem.mk M119.blks M119.next M119.hide (M119.log ++ M77.log)) := ⟨_, rfl⟩
  have X140 : Ext M M138 := by rw [ef139]; exact Ext.join (X85) (X131)
  have hM141 : MemOk M138 := by rw [ef139]; exact hM124
  have g142 : M138.get y12s = some ⟨(irows (rowsI (nOf x) ns y (nN x))).flatten, 62, 5, 0, true⟩ := by rw [ef139]; exact g127
  have g143 : M138.get y12f = some ⟨(brows (accsI y (nN x))).flatten, 4, 1, 0, true⟩ := by rw [ef139]; exact g128
  have g144 : M138.get b24 = some ⟨[(sli y12s 0 (nN x) (nN x)), (sli y12f 0 (nN x) (nN x))], 27, 2, 0, true⟩ := by rw [ef139]; exact g129
  have hw145 : FlatAt 1 M138 _ _ := hw132.ext (fun id k g => by rw [ef139]; exact g)
  have hw146 : FlatAt 1 M138 _ _ := hw133.ext (fun id k g => by rw [ef139]; exact g)
  have hraw := w10_0_raw x a c ns y aw cw ws e M M3 M15 y12s y12f b24 M25 M35 M46 M65 w62a w62c M77 q80a q80c M98 M119
  have rw0 : Mem.mk M77.blks M77.next M77.hide [] = R86 := eR87.symm
  have rw1 : Mem.mk M98.blks M98.next M77.hide M98.log = M98 := by rw [(show M77.hide = M98.hide from ((X85).hide.trans (X110).hide.symm))]
  have rw2 : Mem.mk M98.blks M98.next (hides 0 [⟨2, 1, M77.next, M98.next⟩, ⟨0, 1, M77.next, M77.next⟩] ++ M77.hide) M98.log = hidx (hides 0 [⟨2, 1, M77.next, M98.next⟩, ⟨0, 1, M77.next, M77.next⟩]) M98 := by rw [(show M77.hide = M98.hide from ((X85).hide.trans (X110).hide.symm))]; rfl
  have rw3 : Mem.mk M119.blks M119.next M77.hide M119.log = M119 := by rw [(show M77.hide = M119.hide from ((X85).hide.trans (X131).hide.symm))]
  have rw4 : (Mem.mk M119.blks M119.next M77.hide (M119.log ++ M77.log)) = (Mem.mk M119.blks M119.next M119.hide (M119.log ++ M77.log)) := by rw [(show M77.hide = M119.hide from ((X85).hide.trans (X131).hide.symm))]
  have rw5 : (Mem.mk M119.blks M119.next M119.hide (M119.log ++ M77.log)) = M138 := ef139.symm
  try rw [rw0] at hraw
  try rw [rw1] at hraw
  try rw [rw2] at hraw
  try rw [rw3] at hraw
  try rw [rw4] at hraw
  try rw [rw5] at hraw
  have hE := Ev.told_tmp noNumP mixedP Tryz.func10 q10_ok (by kernel_rfl) rK10 (fun B => specsB_ok (hS10_15_16_20_24_37 B) (k := [(4, bone (.loop (q10.loopAt 4)) Tryz.f10.ntmps [9, 13, 14, 15] [some (pt b24 0), some (.slice w62a (wordI 4 (ws.take 10)).length w62c), some sln, some (i64 0)] M65 .normal (fr [(9, (pt b24 0)), (13, (.slice w62a (wordI 4 (ws.take 10)).length w62c)), (14, (.slice q80a (dbl (wordI 4 (ws.take 10))).length q80c))]) M77)]) (fun p hp => by simp only [List.mem_cons, List.not_mem_nil, or_false] at hp; rcases hp with rfl <;> first | exact BlkOk.gl (BlkOk.loop noNumP mixedP hL78))) (fun _ h => blksF_one h) hraw (hk (q_call rfl p4 l5 e6) (hk (q_call rfl p16 l17 e18) (hk (q_eq (by rw [← eb26, ← em27]; kernel_rfl) Nat.one_ne_zero) (hk (q_st q36) (hk (lA ⟨dA27, dS27⟩ g37 rfl) (hk (q_call rfl p47 l48 e49) (hk (bF (by rw [cc0]; rfl)) (hk (q_call rfl p66 l67 e68) (hk (q_blk rfl) (hk (lA ⟨dA27, dS27⟩ g93 rfl) (hk (q_call rfl p99 l100 e101) (hk (lA ⟨dA27, dS27⟩ (hidx_get.2 ⟨hides_low (by simp; omega), g108⟩) rfl) (hk (q_lt ltb24M77) (hk (q_call rfl p120 l121 e122) (hk (q_apart (by rw [lg130]; simp <;> omega)) hn)))))))))))))))
  have hv : ((.bool ((goF (rowsI (nOf x) ns y (nN x)) 0 (wordI 4 (ws.take 10))) == (goF (rowsI (nOf x) ns y (nN x)) 0 (dbl (wordI 4 (ws.take 10)))))) : Value) = Value.bool true := by rw [goF_dbl (mk_good x y ns) (rowsI_wide _ _ _ _) cc0 _ (by rw [rowsI_len]; omega)]; simp
  rw [hv] at hE
  exact ⟨_, hE⟩
theorem hS10_15_16_20 (B : Bd) : ∀ p ∈ ([(15, pick (Con Tryz.prog [0] 15 (Fl g15))), (16, pick (Con Tryz.prog [0] 16 Qmk)), (20, pick (Con Tryz.prog [0] 20 Qstd))] : List (FuncId × (List Value → Mem → Option (Value × Mem)))), SpecOk Tryz.prog [0] B p.1 p.2 := (fun p hp => by simp only [List.mem_cons, List.not_mem_nil, or_false] at hp; rcases hp with rfl | rfl | rfl <;> first | exact Con.ok _ | exact SpecOk.gl (Con.ok _))
theorem w10_1_raw (x : Int) (a : Option Addr) (c : Nat) (ns : List Int) (y : Int) (aw : Option Addr) (cw : Nat) (ws : List Int) (e : TypeId) (M : Mem) (M3 : Mem) (M15 : Mem) (y12s : Nat) (y12f : Nat) (b24 : Nat) (M25 : Mem) (M35 : Mem) (M46 : Mem) (M62 : Mem) : oTg Tryz.prog [0] [0] 60 Tryz.f10 q10 [i64 x, (.slice a ns.length c), i64 y, (.slice aw ws.length cw)] M [ttV 3 (.bool true) M3, ttV 14 (.agg ⟨[(sli y12s 0 (nN x) (nN x)), (sli y12f 0 (nN x) (nN x))]⟩) M15, ttV 16 (pt b24 0) M25, ttS 18 M35, ttL 20 (.agg ⟨[(sli y12s 0 (nN x) (nN x)), (sli y12f 0 (nN x) (nN x))]⟩), ttV 22 (.bool ((rowsI (nOf x) ns y (nN x)).all (stRow (rowsI (nOf x) ns y (nN x))))) M46, ttT 29, .blk 32 [9, 11] .ret (fr [(8, .bool true)]) M62] 8 = some (.ret, some (.bool true), M62, [qC 15 [] M (.bool true) M3, qC 16 [(i64 x), (.slice a ns.length c), (i64 y)] M3 (.agg ⟨[(sli y12s 0 (nN x) (nN x)), (sli y12f 0 (nN x) (nN x))]⟩) M15, .eq (aalloc Tryz.prog 27 M15) (1, .val (pt b24 0), M25), qS 27 b24 0 (.agg ⟨[(sli y12s 0 (nN x) (nN x)), (sli y12f 0 (nN x) (nN x))]⟩) M25 M35, qL 27 b24 0 M35 (.agg ⟨[(sli y12s 0 (nN x) (nN x)), (sli y12f 0 (nN x) (nN x))]⟩), qC 20 [(.agg ⟨[(sli y12s 0 (nN x) (nN x)), (sli y12f 0 (nN x) (nN x))]⟩)] M35 (.bool ((rowsI (nOf x) ns y (nN x)).all (stRow (rowsI (nOf x) ns y (nN x))))) M46, qT (!((rowsI (nOf x) ns y (nN x)).all (stRow (rowsI (nOf x) ns y (nN x))))), .blk 0 (.loop (q10.loopAt 0)) Tryz.f10.ntmps [9, 11] [some (pt b24 0), some (i64 0)] M46 .ret (fr [(8, .bool true)]) M62]) := by kernel_rfl
theorem w10_1 (x : Int) (a : Option Addr) (c : Nat) (ns : List Int) (y : Int) (aw : Option Addr) (cw : Nat) (ws : List Int) (e : TypeId) {M : Mem} (hM : MemOk M) (hT : M.get 0 = some (tabB e)) (hs : FlatAt 1 M (.slice a ns.length c) (ns.map ([·]))) (hw : FlatAt 1 M (.slice aw ws.length cw) (ws.map ([·]))) (hn9 : 1 ≤ nN x ∧ nN x ≤ 9) (cc0 : ((rowsI (nOf x) ns y (nN x)).all (stRow (rowsI (nOf x) ns y (nN x)))) = false) : ∃ M', Ev Tryz.prog [0] 10 [i64 x, (.slice a ns.length c), i64 y, (.slice aw ws.length cw)] M (.bool true) M' := by
  obtain ⟨w1, N2, M3, p4, l5, e6, E7, hM8, Q9, G10⟩ := call_t (P := Tryz.prog) (GL := [0]) (f := 15) hM (con15c (((Ext.refl M)).old hT))
  have ew1 : w1 = .bool true := (Option.some.inj Q9).symm
  subst ew1
  have X11 := (Ext.refl M).trans E7
  obtain ⟨w13, N14, M15, p16, l17, e18, E19, hM20, Q21, G22⟩ := call_t (P := Tryz.prog) (GL := [0]) (f := 16) hM8 (Con.gl (con16 x a c ns y (MemOk.log hM8) (hs.Ext X11).log))
  obtain ⟨y12s, y12f, ew13, ⟨y12n1, y12g1⟩, ⟨y12n2, y12g2⟩, dy12sy12f⟩ := Qmk.val (hs.Ext X11).log Q21
  subst ew13
  have y12m1 : M3.next ≤ y12s := y12n1
  have y12m2 : M3.next ≤ y12f := y12n2
  have y12h1 : M15.get y12s = some ⟨(irows (rowsI (nOf x) ns y (nN x))).flatten, 62, 5, 0, true⟩ := by rw [G22]; exact y12g1
  have y12h2 : M15.get y12f = some ⟨(brows (accsI y (nN x))).flatten, 4, 1, 0, true⟩ := by rw [G22]; exact y12g2
  have ny12s : M.next ≤ y12s := Nat.le_trans (X11).next y12m1
  have ny12f : M.next ≤ y12f := Nat.le_trans (X11).next y12m2
  have X23 := X11.trans E19
  obtain ⟨b24, M25, eb26, em27, g28, E29, hM30⟩ := new_t hM20 ⟨[sln, sln], 27, 2, 0, true⟩
  have nb24 : M.next ≤ b24 := by rw [← eb26]; exact X23.next
  have dy12sb24 : y12s ≠ b24 := by have := Mem.lt_of_get y12h1; omega
  have dy12fb24 : y12f ≠ b24 := by have := Mem.lt_of_get y12h2; omega
  have g31 := E29.old y12h1
  have g32 := E29.old y12h2
  have nx33 := E29.next
  have X34 := X23.trans E29
  obtain ⟨M35, q36, g37, kp38, X39, hM40, nx41⟩ := store_t (o := 0) (v := (.agg ⟨[(sli y12s 0 (nN x) (nN x)), (sli y12f 0 (nN x) (nN x))]⟩)) (new := [(sli y12s 0 (nN x) (nN x)), (sli y12f 0 (nN x) (nN x))]) X34 nb24 hM30 dS27 g28 rfl rfl (Nat.zero_le _) (Nat.le_of_ble_eq_true rfl) rfl
  replace g37 : M35.get b24 = some ⟨[(sli y12s 0 (nN x) (nN x)), (sli y12f 0 (nN x) (nN x))], 27, 2, 0, true⟩ := g37
  have g42 := (kp38 _ dy12sb24).trans g31
  have g43 := (kp38 _ dy12fb24).trans g32
  obtain ⟨w44, N45, M46, p47, l48, e49, E50, hM51, Q52, G53⟩ := call_t (P := Tryz.prog) (GL := [0]) (f := 20) hM40 (Con.gl (con20 (MemOk.log hM40) (mkAt g42 rfl g43 rfl).log))
  have g54 := E50.old g42
  have g55 := E50.old g43
  have g56 := E50.old g37
  have ew44 := Qstd.val (mkAt g42 rfl g43 rfl).log Q52
  rw [stdB, mk_right, Bool.true_and] at ew44
  subst ew44
  have X57 := X39.trans E50
  have nx58 := E50.next
  have lb59 := Mem.lt_of_get g54
  have lb60 := Mem.lt_of_get g55
  have lb61 := Mem.lt_of_get g56
  obtain ⟨M62, hL63, E64, hM65⟩ := loopO_ret b24 (mk_good x y ns) (by rw [rowsI_len]; omega) (rowsI_len _ _ _ _) (accsI_len _ _) cc0 hM51 (mkAt g54 rfl g55 rfl) g56
  have g66 := E64.old g54
  have g67 := E64.old g55
  have g68 := E64.old g56
  have X69 := X57.trans E64
  have hraw := w10_1_raw x a c ns y aw cw ws e M M3 M15 y12s y12f b24 M25 M35 M46 M62
  have hE := Ev.told_tmp noNumP mixedP Tryz.func10 q10_ok (by kernel_rfl) rK10 (fun B => specsB_ok (hS10_15_16_20 B) (k := [(0, bone (.loop (q10.loopAt 0)) Tryz.f10.ntmps [9, 11] [some (pt b24 0), some (i64 0)] M46 .ret (fr [(8, .bool true)]) M62)]) (fun p hp => by simp only [List.mem_cons, List.not_mem_nil, or_false] at hp; rcases hp with rfl <;> first | exact BlkOk.gl (BlkOk.loop noNumP mixedP hL63))) (fun _ h => blksF_one h) hraw (hk (q_call rfl p4 l5 e6) (hk (q_call rfl p16 l17 e18) (hk (q_eq (by rw [← eb26, ← em27]; kernel_rfl) Nat.one_ne_zero) (hk (q_st q36) (hk (lA ⟨dA27, dS27⟩ g37 rfl) (hk (q_call rfl p47 l48 e49) (hk (bT (by rw [cc0]; rfl)) (hk (q_blk rfl) hn))))))))
  exact ⟨_, hE⟩
theorem w10_all (x : Int) (a : Option Addr) (c : Nat) (ns : List Int) (y : Int) (aw : Option Addr) (cw : Nat) (ws : List Int) (e : TypeId) {M : Mem} (hM : MemOk M) (hT : M.get 0 = some (tabB e)) (hs : FlatAt 1 M (.slice a ns.length c) (ns.map ([·]))) (hw : FlatAt 1 M (.slice aw ws.length cw) (ws.map ([·]))) : ∃ M', Ev Tryz.prog [0] 10 [i64 x, (.slice a ns.length c), i64 y, (.slice aw ws.length cw)] M (.bool true) M' := by
  cases h : (rowsI (nOf x) ns y (nN x)).all (stRow (rowsI (nOf x) ns y (nN x))) with
  | true => exact w10_0 x a c ns y aw cw ws e hM hT hs hw (nN_le x) h
  | false => exact w10_1 x a c ns y aw cw ws e hM hT hs hw (nN_le x) h
end Go.Proofs.YtchnlooenomfnaaGreatDoor
