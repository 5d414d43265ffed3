/-
  Package adj: each of its laws for every argument; no conditions. The last text states which.
-/
import Derived.Test.YtipnhelkganmdaaUP5
open Go Go.Am Go.Proofs
namespace Go.Proofs.Ytipnhelkganmdaa
set_option maxRecDepth 100000
set_option linter.unusedVariables false
set_option linter.unusedSimpArgs false
theorem dA26 : (Try.prog.underlying 26).map isAggD = some true := by kernel_rfl
theorem dS26 : (Try.prog.info? 26).map (·.size) = some 2 := by kernel_rfl
theorem rK12 : Try.f12.results = #[.tmp 2] := by kernel_rfl
theorem hS26_27_34_36 (B : Bd) : ∀ p ∈ ([(25, pick (Con Try.prog [] 25 Q25)), (26, pick (Con Try.prog [] 26 Q26)), (28, pick (Con Try.prog [] 28 Q28))] : List (FuncId × (List Value → Mem → Option (Value × Mem)))), SpecOk Try.prog [] B p.1 p.2 := (fun p hp => by simp only [List.mem_cons, List.not_mem_nil, or_false] at hp; rcases hp with rfl | rfl | rfl <;> first | exact Con.ok _)
theorem w26_raw (n : Nat) (al : Option Addr) (cl : Nat) (l : List E4) (M : Mem) (b1 : Nat) (M2 : Mem) (M12 : Mem) (a22 : Option Addr) (c23 : Nat) (M26 : Mem) (a44 : Option Addr) (c45 : Nat) (M48 : Mem) (E61 : Nat) (c62 : Nat) (M65 : Mem) (E80 : Nat) (c81 : Nat) (M84 : Mem) (a100 : Option Addr) (c101 : Nat) (M104 : Mem) (b120 : Nat) (M121 : Mem) : oT Try.prog [] 51 Try.f12 q12 [(.agg ⟨[(i64 (((n : Nat) : Int))), (.slice al l.length cl)]⟩)] M [ttV 1 (pt b1 0) M2, ttL 5 (.agg ⟨[(i64 (((n : Nat) : Int))), (.slice al l.length cl)]⟩), ttV 7 (.bool (chkN ((n : Nat) : Int) l)) M12, ttF 10, ttL 14 (.slice al l.length cl), ttV 16 (.slice a22 l.length c23) M26, ttL 22 (i64 (((n : Nat) : Int))), ttL 26 (.slice al l.length cl), ttV 28 (.slice a44 l.length c45) M48, ttV 30 (sli E61 0 n c62) M65, ttL 34 (i64 (((n : Nat) : Int))), ttV 38 (sli E80 0 n c81) M84, ttL 44 (.slice al l.length cl), ttV 46 (.slice a100 l.length c101) M104, ttV 50 (pt b120 0) M121] 2 = some (.ret, some (pt b120 0), (Mem.mk M121.blks M121.next M26.hide (M121.log ++ M26.log)), [.eq (abox Try.prog 26 (.agg ⟨[(i64 (((n : Nat) : Int))), (.slice al l.length cl)]⟩) M) (1, .val (pt b1 0), M2), qL 26 b1 0 M2 (.agg ⟨[(i64 (((n : Nat) : Int))), (.slice al l.length cl)]⟩), qC 25 [(.agg ⟨[(i64 (((n : Nat) : Int))), (.slice al l.length cl)]⟩)] M2 (.bool (chkN ((n : Nat) : Int) l)) M12, qF (!(chkN ((n : Nat) : Int) l)), qL 24 b1 1 M12 (.slice al l.length cl), qC 26 [(.slice al l.length cl), (.func (.func 27) ⟨[]⟩ ⟨[]⟩)] M12 (.slice a22 l.length c23) M26, qL 3 b1 0 (Mem.mk M26.blks M26.next M26.hide []) (i64 (((n : Nat) : Int))), qT (Nat.blt b1 M26.next), qL 24 b1 1 (Mem.mk M26.blks M26.next M26.hide []) (.slice al l.length cl), qC 26 [(.slice al l.length cl), (.func (.func 29) ⟨[]⟩ ⟨[]⟩)] (Mem.mk M26.blks M26.next M26.hide []) (.slice a44 l.length c45) M48, qC 28 [(i64 (((n : Nat) : Int))), (.slice a44 l.length c45)] (Mem.mk M48.blks M48.next M26.hide M48.log) (sli E61 0 n c62) M65, qL 3 b1 0 (Mem.mk M65.blks M65.next (hides 64 [⟨5, 1, M48.next, M65.next⟩, ⟨4, 1, M26.next, M48.next⟩, ⟨3, 1, M26.next, M26.next⟩] ++ M26.hide) M65.log) (i64 (((n : Nat) : Int))), qT (Nat.blt b1 M26.next), qC 28 [(i64 (((n : Nat) : Int))), (.slice a22 l.length c23)] (Mem.mk M65.blks M65.next M26.hide M65.log) (sli E80 0 n c81) M84, qL 24 b1 1 (Mem.mk M84.blks M84.next (hides 2048 [⟨9, 1, M65.next, M84.next⟩, ⟨5, 1, M48.next, M65.next⟩, ⟨4, 1, M26.next, M48.next⟩, ⟨3, 1, M26.next, M26.next⟩] ++ M26.hide) M84.log) (.slice al l.length cl), qT (Nat.blt b1 M26.next), qC 26 [(.slice al l.length cl), (.func (.func 30) ⟨[]⟩ ⟨[]⟩)] (Mem.mk M84.blks M84.next M26.hide M84.log) (.slice a100 l.length c101) M104, .eq (abox Try.prog 48 (.agg ⟨[(sli E61 0 n c62), (sli E80 0 n c81), (.slice a22 l.length c23), (.slice a100 l.length c101)]⟩) (Mem.mk M104.blks M104.next M26.hide M104.log)) (1, .val (pt b120 0), M121), qT (apartN [b1, b1, b1] M121.log)]) := by kernel_rfl
theorem w26 (n : Nat) (al : Option Addr) (cl : Nat) (l : List E4) {M : Mem} (hM : MemOk M) (hl : pEdges l (.slice al l.length cl) M) (hck : chkN ((n : Nat) : Int) l = true) (hcd : 1 ≤ ((n : Nat) : Int) ∧ ((n : Nat) : Int) ≤ 60 ∧ l.length ≤ 400 ∧ ∀ e ∈ l, 0 ≤ e.f ∧ e.f < ((n : Nat) : Int) ∧ 0 ≤ e.t ∧ e.t < ((n : Nat) : Int) ∧ okM e) : ∃ v M', Ev Try.prog [] 12 [(.agg ⟨[(i64 (((n : Nat) : Int))), (.slice al l.length cl)]⟩)] M v M' ∧ Ext M M' ∧ MemOk M' ∧ newR (pAdj 48) (adjM n l) M.next v M' := by
  obtain ⟨b1, M2, eb3, em4, g5, E6, hM7⟩ := new_t hM ⟨[(i64 (((n : Nat) : Int))), (.slice al l.length cl)], 26, 2, 0, true⟩
  have nb1 : M.next ≤ b1 := by rw [← eb3]; exact (Ext.refl M).next
  have nx8 := E6.next
  have X9 := (Ext.refl M).trans E6
  have ltb1M12 := Mem.lt_of_get g5
  obtain ⟨w10, N11, M12, p13, l14, e15, E16, hM17, F18⟩ := call_fc (x := (((n : Nat) : Int), l)) hM7 con25 (⟨_, rfl, _, rfl, AP.Ext (R := pEdges) hl X9⟩)
  have nx19 := E16.next
  have g20 := E16.old g5
  have ew10 : w10 = (.bool (chkN ((n : Nat) : Int) l)) := F18
  subst ew10
  have X21 := X9.trans E16
  have ltb1M26 := Mem.lt_of_get g20
  obtain ⟨w24, N25, M26, p27, l28, e29, E30, hM31, F32⟩ := call_fc (x := (l, Tell.to)) hM17 con26 (⟨⟨_, _, rfl, AP.Ext (R := pEdges) hl X21, rfl⟩, hcd.2.2.1, fun e he => (hcd.2.2.2 e he).2.2.2.2⟩)
  have nx33 := E30.next
  have g34 := E30.old g20
  have G35 : pInts (l.map (tellE .to)) w24 (hidx [(0, M12.next)] M26) := hx_of F32
  obtain ⟨a22, c23, ew24⟩ := GRowsAt.form G35
  rw [List.length_map] at ew24
  subst ew24
  have X36 := X21.trans E30
  obtain ⟨R37, eR38⟩ : ∃ m : Mem, m = Mem.mk M26.blks M26.next M26.hide [] := ⟨_, rfl⟩
  have X39 : Ext (Mem.mk M.blks M.next M.hide []) R37 := by rw [eR38]; exact Ext.aside (X36)
  have lg40 : R37.log = [] := by rw [eR38]
  have nxR37 : R37.next = M26.next := by rw [eR38]
  have hM41 : MemOk R37 := by rw [eR38]; exact MemOk.log hM31
  have ltb1M26 : b1 < M26.next := by have h := Mem.lt_of_get g34; exact h
  have g42 : R37.get b1 = some ⟨[(i64 (((n : Nat) : Int))), (.slice al l.length cl)], 26, 2, 0, true⟩ := by rw [eR38]; exact g34
  have F43 := hx_still (R := pInts) (M' := R37) G35 (fun id b h => by rw [eR38]; exact h)
  have ltb1M48 := Mem.lt_of_get g42
  obtain ⟨w46, N47, M48, p49, l50, e51, E52, hM53, F54⟩ := call_fc (x := (l, Tell.fr)) hM41 con26 (⟨⟨_, _, rfl, AP.Ext (R := pEdges) (AP.log (R := pEdges) hl) X39, rfl⟩, hcd.2.2.1, fun e he => (hcd.2.2.2 e he).2.2.2.2⟩)
  have nx55 := E52.next
  have F56 := hx_ext (R := pInts) F43 E52
  have g57 := E52.old g42
  have G58 : pInts (l.map (tellE .fr)) w46 (hidx [(0, R37.next)] M48) := hx_of F54
  obtain ⟨a44, c45, ew46⟩ := GRowsAt.form G58
  rw [List.length_map] at ew46
  subst ew46
  have lg59 : M48.log = [] := by rw [← e51]; exact lg40
  have X60 := X39.trans E52
  have ltb1M65 := Mem.lt_of_get g57
  obtain ⟨w63, N64, M65, p66, l67, e68, E69, hM70, F71⟩ := call_fc (x := (n, l.map (tellE .fr))) hM53 con28 (⟨⟨_, _, rfl, rfl, hx_out (R := pInts) G58⟩, by simpa using hcd.2.2.1, by have := hcd.2.1; omega, tell_range hck (by simp)⟩)
  have nx72 := E69.next
  have F73 := hx_ext (R := pInts) F56 E69
  have F74 := hx_ext (R := pInts) G58 E69
  have g75 := E69.old g57
  have G76 : pRowss (rowsOf n (l.map (tellE .fr))) w63 (hidx [(0, M48.next)] M65) := hx_of F71
  obtain ⟨E61, c62, bl77, ew63, _⟩ := id G76
  rw [rowsOf_len] at ew63
  subst ew63
  have lg78 : M65.log = [] := by rw [← e68]; exact lg59
  have X79 := X60.trans E69
  have ltb1M84 := Mem.lt_of_get g75
  obtain ⟨w82, N83, M84, p85, l86, e87, E88, hM89, F90⟩ := call_fc (x := (n, l.map (tellE .to))) hM70 con28 (⟨⟨_, _, rfl, rfl, hx_out (R := pInts) F73⟩, by simpa using hcd.2.2.1, by have := hcd.2.1; omega, tell_range hck (by simp)⟩)
  have nx91 := E88.next
  have F92 := hx_ext (R := pInts) F73 E88
  have F93 := hx_ext (R := pInts) F74 E88
  have F94 := hx_ext (R := pRowss) G76 E88
  have g95 := E88.old g75
  have G96 : pRowss (rowsOf n (l.map (tellE .to))) w82 (hidx [(0, M65.next)] M84) := hx_of F90
  obtain ⟨E80, c81, bl97, ew82, _⟩ := id G96
  rw [rowsOf_len] at ew82
  subst ew82
  have lg98 : M84.log = [] := by rw [← e87]; exact lg78
  have X99 := X79.trans E88
  have ltb1M104 := Mem.lt_of_get g95
  obtain ⟨w102, N103, M104, p105, l106, e107, E108, hM109, F110⟩ := call_fc (x := (l, Tell.set)) hM89 con26 (⟨⟨_, _, rfl, AP.Ext (R := pEdges) (AP.log (R := pEdges) hl) X99, rfl⟩, hcd.2.2.1, fun e he => (hcd.2.2.2 e he).2.2.2.2⟩)
  have nx111 := E108.next
  have F112 := hx_ext (R := pInts) F92 E108
  have F113 := hx_ext (R := pInts) F93 E108
  have F114 := hx_ext (R := pRowss) F94 E108
  have F115 := hx_ext (R := pRowss) G96 E108
  have g116 := E108.old g95
  have G117 : pInts (l.map (tellE .set)) w102 (hidx [(0, M84.next)] M104) := hx_of F110
  obtain ⟨a100, c101, ew102⟩ := GRowsAt.form G117
  rw [List.length_map] at ew102
  subst ew102
  have lg118 : M104.log = [] := by rw [← e107]; exact lg98
  have X119 := X99.trans E108
  obtain ⟨b120, M121, eb122, em123, g124, E125, hM126⟩ := new_t hM109 ⟨[(sli E61 0 n c62), (sli E80 0 n c81), (.slice a22 l.length c23), (.slice a100 l.length c101)], 48, 4, 0, true⟩
  have nb120 : M.next ≤ b120 := by rw [← eb122]; exact X119.next
  have db1b120 : b1 ≠ b120 := by have := Mem.lt_of_get g116; omega
  have F127 := hx_new (R := pInts) F112 eb122 E125
  have F128 := hx_new (R := pInts) F113 eb122 E125
  have F129 := hx_new (R := pRowss) F114 eb122 E125
  have F130 := hx_new (R := pRowss) F115 eb122 E125
  have F131 := hx_new (R := pInts) G117 eb122 E125
  have g132 := E125.old g116
  have lg133 : M121.log = [] := by rw [← em123]; exact lg118
  have nx134 := E125.next
  have X135 := X119.trans E125
  obtain ⟨M136, ef137⟩ : ∃ m : Mem, m = (Mem.mk M121.blks M121.next M121.hide (M121.log ++ M26.log)) := ⟨_, rfl⟩
  have X138 : Ext M M136 := by rw [ef137]; exact Ext.join (X36) (X135)
  have hM139 : MemOk M136 := by rw [ef137]; exact hM126
  have g140 : M136.get b1 = some ⟨[(i64 (((n : Nat) : Int))), (.slice al l.length cl)], 26, 2, 0, true⟩ := by rw [ef137]; exact g132
  have g141 : M136.get b120 = some ⟨[(sli E61 0 n c62), (sli E80 0 n c81), (.slice a22 l.length c23), (.slice a100 l.length c101)], 48, 4, 0, true⟩ := by rw [ef137]; exact g124
  have F142 := hx_still (R := pInts) (M' := M136) F127 (fun id b h => by rw [ef137]; exact h)
  have F143 := hx_still (R := pInts) (M' := M136) F128 (fun id b h => by rw [ef137]; exact h)
  have F144 := hx_still (R := pRowss) (M' := M136) F129 (fun id b h => by rw [ef137]; exact h)
  have F145 := hx_still (R := pRowss) (M' := M136) F130 (fun id b h => by rw [ef137]; exact h)
  have F146 := hx_still (R := pInts) (M' := M136) F131 (fun id b h => by rw [ef137]; exact h)
  have hraw := w26_raw n al cl l M  b1 M2 M12 a22 c23 M26 a44 c45 M48 E61 c62 M65 E80 c81 M84 a100 c101 M104 b120 M121
  have rw0 : Mem.mk M26.blks M26.next M26.hide [] = R37 := eR38.symm
  have rw1 : Mem.mk M48.blks M48.next M26.hide M48.log = M48 := by rw [(show M26.hide = M48.hide from ((X36).hide.trans (X60).hide.symm))]
  have rw2 : Mem.mk M65.blks M65.next M26.hide M65.log = M65 := by rw [(show M26.hide = M65.hide from ((X36).hide.trans (X79).hide.symm))]
  have rw3 : Mem.mk M65.blks M65.next (hides 64 [⟨5, 1, M48.next, M65.next⟩, ⟨4, 1, M26.next, M48.next⟩, ⟨3, 1, M26.next, M26.next⟩] ++ M26.hide) M65.log = hidx (hides 64 [⟨5, 1, M48.next, M65.next⟩, ⟨4, 1, M26.next, M48.next⟩, ⟨3, 1, M26.next, M26.next⟩]) M65 := by rw [(show M26.hide = M65.hide from ((X36).hide.trans (X79).hide.symm))]; rfl
  have rw4 : Mem.mk M84.blks M84.next M26.hide M84.log = M84 := by rw [(show M26.hide = M84.hide from ((X36).hide.trans (X99).hide.symm))]
  have rw5 : Mem.mk M84.blks M84.next (hides 2048 [⟨9, 1, M65.next, M84.next⟩, ⟨5, 1, M48.next, M65.next⟩, ⟨4, 1, M26.next, M48.next⟩, ⟨3, 1, M26.next, M26.next⟩] ++ M26.hide) M84.log = hidx (hides 2048 [⟨9, 1, M65.next, M84.next⟩, ⟨5, 1, M48.next, M65.next⟩, ⟨4, 1, M26.next, M48.next⟩, ⟨3, 1, M26.next, M26.next⟩]) M84 := by rw [(show M26.hide = M84.hide from ((X36).hide.trans (X99).hide.symm))]; rfl
  have rw6 : Mem.mk M104.blks M104.next M26.hide M104.log = M104 := by rw [(show M26.hide = M104.hide from ((X36).hide.trans (X119).hide.symm))]
  have rw7 : Mem.mk M121.blks M121.next M26.hide M121.log = M121 := by rw [(show M26.hide = M121.hide from ((X36).hide.trans (X135).hide.symm))]
  have rw8 : (Mem.mk M121.blks M121.next M26.hide (M121.log ++ M26.log)) = (Mem.mk M121.blks M121.next M121.hide (M121.log ++ M26.log)) := by rw [(show M26.hide = M121.hide from ((X36).hide.trans (X135).hide.symm))]
  have rw9 : (Mem.mk M121.blks M121.next M121.hide (M121.log ++ M26.log)) = M136 := ef137.symm
  try rw [rw0] at hraw
  try rw [rw1] at hraw
  try rw [rw2] at hraw
  try rw [rw3] at hraw
  try rw [rw4] at hraw
  try rw [rw5] at hraw
  try rw [rw6] at hraw
  try rw [rw7] at hraw
  try rw [rw8] at hraw
  try rw [rw9] at hraw
  exact ⟨(pt b120 0), M136, Ev.told_tmp noNumP mixedP Try.func12 q12_ok (by kernel_rfl) rK12 (fun B => specsB_ok (k := []) (hS26_27_34_36 B) (fun p hp => by cases hp)) (fun _ _ => rfl) hraw (hk (q_eq (by rw [← eb3, ← em4]; kernel_rfl) Nat.one_ne_zero) (hk (lA ⟨dA26, dS26⟩ g5 rfl) (hk (q_call rfl p13 l14 e15) (hk (bF (by rw [hck]; rfl)) (hk (lC dC24 g20 rfl) (hk (q_call rfl p27 l28 e29) (hk (lC dC3 g42 rfl) (hk (q_lt ltb1M26) (hk (lC dC24 g42 rfl) (hk (q_call rfl p49 l50 e51) (hk (q_call rfl p66 l67 e68) (hk (lC dC3 (hidx_get.2 ⟨hides_low (by simp; omega), g75⟩) rfl) (hk (q_lt ltb1M26) (hk (q_call rfl p85 l86 e87) (hk (lC dC24 (hidx_get.2 ⟨hides_low (by simp; omega), g95⟩) rfl) (hk (q_lt ltb1M26) (hk (q_call rfl p105 l106 e107) (hk (q_eq (by rw [← eb122, ← em123]; kernel_rfl) Nat.one_ne_zero) (hk (q_apart (by rw [lg133]; simp <;> omega)) hn))))))))))))))))))), X138, hM139, ⟨b120, _, _, _, _, rfl, hid_of nb120 g141, hx_to (R := pRowss) F144 (by intro id hh; simp only [hidden_con] at hh; omega), hx_to (R := pRowss) F145 (by intro id hh; simp only [hidden_con] at hh; omega), hx_to (R := pInts) F142 (by intro id hh; simp only [hidden_con] at hh; omega), hx_to (R := pInts) F146 (by intro id hh; simp only [hidden_con] at hh; omega)⟩⟩
abbrev Q12 := FC (asP (as1 pNetN) fun x => chkN ((x.1 : Nat) : Int) x.2 = true) (newR (pAdj 48)) (fun x => adjM x.1 x.2)
theorem con12 {x : Nat × List E4} {lv : List Value} {M : Mem} (hM : MemOk M) (h : (asP (as1 pNetN) fun x : Nat × List E4 => chkN ((x.1 : Nat) : Int) x.2 = true) x lv M) : ∃ v M', Con Try.prog [] 12 Q12 lv M v M' := by
  refine FC.con h ?_
  obtain ⟨⟨g0, rfl, k0⟩, hck⟩ := h
  obtain ⟨n, l⟩ := x
  obtain ⟨_, rfl, hl⟩ := k0
  obtain ⟨a, c, rfl⟩ := GRowsAt.form hl
  obtain ⟨v, M', h1, h2, _, h3⟩ := w26 n a c l hM hl hck (chkN_spec hck)
  exact ⟨v, M', h1, h2, h3⟩
end Go.Proofs.Ytipnhelkganmdaa
