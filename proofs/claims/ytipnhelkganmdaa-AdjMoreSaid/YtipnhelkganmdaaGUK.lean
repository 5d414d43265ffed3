/-
  Package adj: each of its laws for every argument; no conditions. The last text states which.
-/
import Derived.Test.YtipnhelkganmdaaGUP4
import Derived.Test.YtipnhelkganmdaaGAmLoop
import Derived.Test.YtipnhelkganmdaaGAmMk
set_option linter.unusedVariables false
set_option linter.unusedSimpArgs false
open Go Go.Am Go.Proofs
namespace Go.Proofs.Ytipnhelkganmdaa
set_option maxRecDepth 100000
set_option linter.unusedVariables false
set_option linter.unusedSimpArgs false
theorem knownRun : (Go.Am.arun Try.prog [] noSpecs 300 10 [] zeroMem).map (·.1) = some (.bool true) := by kernel_rfl
theorem okKnown (B : Bd) : SpecOk Try.prog [] B 10 (ansNone (.bool true)) := by
  cases hk : Go.Am.arun Try.prog [] noSpecs 300 10 [] zeroMem with
  | none => have := knownRun; rw [hk] at this; cases this
  | some r =>
    obtain ⟨v, M1⟩ := r
    have := knownRun
    rw [hk] at this
    cases this
    exact SpecOk.ansNone noNumP mixedP (fun B => SpecsOk.none) hk rfl
abbrev Q10 := FC as0 (plain pB) (fun _ => true)
theorem con10 {x : Unit} {lv : List Value} {M : Mem} (hM : MemOk M) (h : as0 x lv M) : ∃ v M', Con Try.prog [] 10 Q10 lv M v M' := by
  refine FC.con h ?_
  obtain rfl := h
  exact ⟨_, M, Ev.of_spec okKnown rfl, Ext.refl M, rfl⟩
end Go.Proofs.Ytipnhelkganmdaa

set_option linter.unusedVariables false
set_option linter.unusedSimpArgs false
open Go Go.Am Go.Proofs
namespace Go.Proofs.Ytipnhelkganmdaa
set_option maxRecDepth 100000
set_option linter.unusedVariables false
set_option linter.unusedSimpArgs false
theorem hS9_19 (B : Bd) : ∀ p ∈ ([(24, pick (Con Try.prog [] 24 Q24))] : List (FuncId × (List Value → Mem → Option (Value × Mem)))), SpecOk Try.prog [] B p.1 p.2 := (fun p hp => by simp only [List.mem_cons, List.not_mem_nil, or_false] at hp; rcases hp with rfl <;> first | exact Con.ok _)
theorem r90z_raw (p r6 bb o m c i : Nat) (N md k : Int) (S : Value) (l : List E4) (M : Mem) (M11 : Mem) (M26 : Mem) (M41 : Mem) (M56 : Mem) (b69 : Nat) (M70 : Mem) (M82 : Mem) (M103 : Mem) (M118 : Mem) (M131 : Mem) (M143 : Mem) (M158 : Mem) (M171 : Mem) (b181 : Nat) (M182 : Mem) (t194 : Bool) (S195 : Value) (M196 : Mem) (M207 : Mem) : oR Try.prog [] 100 Try.f11 (q11.loopAt 0) [(1, (sli bb o m c)), (2, (i64 md)), (6, (pt r6 0)), (7, (pt p 0)), (8, (i64 (((i : Nat) : Int))))] M [ttT 10, ttT 12, ttT 15, ttT 16, ttT 22, ttL 24 (i64 k), ttL 32 (i64 N), ttV 34 (i64 (modI k N)) M11, ttL 42 (i64 N), ttV 44 (i64 (modI (quoI k 13) N)) M26, ttV 50 (i64 (modI (quoI k 170) 5)) M41, ttV 56 (i64 (modI (quoI k 900) 9)) M56, ttV 60 (pt b69 0) M70, ttS 62 M82, ttV 66 (i64 (modI md 3)) M103, ttT 69, ttL 73 (i64 (modI k N)), ttL 77 (i64 (modI (quoI k 13) N)), ttV 81 (i64 (modI (IntKind.wrap .i64 ((modI k N) + (modI (quoI k 13) N))) 2)) M118, ttS 85 M131, ttV 89 (i64 (modI k 31)) M143, ttT 92, ttV 98 (i64 (modI (quoI k 31) 3)) M158, ttS 104 M171, ttL 108 S, ttL 110 (.agg ⟨[(i64 (modI k N)), (i64 (modI (quoI k 13) N)), (i64 (modI (IntKind.wrap .i64 ((modI k N) + (modI (quoI k 13) N))) 2)), (i64 (IntKind.wrap .i64 ((2147483647 : Int) - (modI (quoI k 31) 3))))]⟩), ttV 112 (sli b181 0 1 2) M182, .at 114 ((bif t194 then 1 else 2), .val S195, M196), ttS 118 M207] [1, 2, 6, 7, 8] = some (.normal, [some (sli bb o m c), some (i64 md), some (pt r6 0), some (pt p 0), some (i64 (IntKind.wrap .i64 ((((i : Nat) : Int)) + (1 : Int))))], M207, [qT (decide ((((i : Nat) : Int)) < (((m : Nat) : Int)))), qT (decide ((((i : Nat) : Int)) < (((m : Nat) : Int)))), qT (decide ((((i : Nat) : Int)) < (((m : Nat) : Int)))), qT (decide ((((i : Nat) : Int)) < (40 : Int))), .q (.inb (((i : Nat) : Int)) m) (ansB true), qL 3 bb (o + (((i : Nat) : Int) : Int).toNat * 1) M (i64 k), qL 3 p 0 (Mem.mk M.blks M.next M.hide []) (i64 N), qC 24 [(i64 k), (i64 N)] (Mem.mk M.blks M.next M.hide []) (i64 (modI k N)) M11, qL 3 p 0 (Mem.mk M11.blks M11.next (hides 64 [⟨3, 1, M.next, M11.next⟩, ⟨2, 1, M.next, M.next⟩] ++ M.hide) M11.log) (i64 N), qT (Nat.blt p M.next), qC 24 [(i64 (quoI k 13)), (i64 N)] (Mem.mk M11.blks M11.next M.hide M11.log) (i64 (modI (quoI k 13) N)) M26, qC 24 [(i64 (quoI k 170)), (i64 5)] (Mem.mk M26.blks M26.next M.hide M26.log) (i64 (modI (quoI k 170) 5)) M41, qC 24 [(i64 (quoI k 900)), (i64 9)] (Mem.mk M41.blks M41.next M.hide M41.log) (i64 (modI (quoI k 900) 9)) M56, .eq (aalloc Try.prog 32 (Mem.mk M56.blks M56.next (hides 0 [⟨14, 1, M41.next, M56.next⟩, ⟨11, 1, M26.next, M41.next⟩, ⟨8, 1, M11.next, M26.next⟩, ⟨3, 1, M.next, M11.next⟩, ⟨2, 1, M.next, M.next⟩] ++ M.hide) M56.log)) (1, .val (pt b69 0), M70), qS 32 b69 0 (.agg ⟨[(i64 (modI k N)), (i64 (modI (quoI k 13) N)), (i64 (modI (quoI k 170) 5)), (i64 (modI (quoI k 900) 9))]⟩) (Mem.mk M70.blks M70.next M.hide M70.log) M82, qT (apartN [p] M82.log), qC 24 [(i64 md), (i64 3)] (Mem.mk M82.blks M82.next M.hide (M82.log ++ M.log)) (i64 (modI md 3)) M103, qT ((modI md 3) == (0 : Int)), qL 3 b69 0 M103 (i64 (modI k N)), qL 3 b69 1 M103 (i64 (modI (quoI k 13) N)), qC 24 [(i64 (IntKind.wrap .i64 ((modI k N) + (modI (quoI k 13) N)))), (i64 2)] M103 (i64 (modI (IntKind.wrap .i64 ((modI k N) + (modI (quoI k 13) N))) 2)) M118, qS 3 b69 2 (i64 (modI (IntKind.wrap .i64 ((modI k N) + (modI (quoI k 13) N))) 2)) M118 M131, qC 24 [(i64 k), (i64 31)] M131 (i64 (modI k 31)) M143, qT ((modI k 31) == (0 : Int)), qC 24 [(i64 (quoI k 31)), (i64 3)] M143 (i64 (modI (quoI k 31) 3)) M158, qS 3 b69 3 (i64 (IntKind.wrap .i64 ((2147483647 : Int) - (modI (quoI k 31) 3)))) M158 M171, qL 24 p 1 M171 S, qL 32 b69 0 M171 (.agg ⟨[(i64 (modI k N)), (i64 (modI (quoI k 13) N)), (i64 (modI (IntKind.wrap .i64 ((modI k N) + (modI (quoI k 13) N))) 2)), (i64 (IntKind.wrap .i64 ((2147483647 : Int) - (modI (quoI k 31) 3))))]⟩), .eq (abuildSlice Try.prog 24 1 [(0, (.agg ⟨[(i64 (modI k N)), (i64 (modI (quoI k 13) N)), (i64 (modI (IntKind.wrap .i64 ((modI k N) + (modI (quoI k 13) N))) 2)), (i64 (IntKind.wrap .i64 ((2147483647 : Int) - (modI (quoI k 31) 3))))]⟩))] M171) (1, .val (sli b181 0 1 2), M182), .q (.append [24, 24] S (sli b181 0 1 2) M182) ((bif t194 then 1 else 2), .val S195, M196), qS 24 p 1 S195 M196 M207]) := by cases t194 <;> kernel_rfl
theorem r90z (p r6 bb o m c i : Nat) (N md k : Int) (S : Value) (l : List E4) {M M0 : Mem} (hM : MemOk M) (X0 : Ext M0 M) (np : M0.next ≤ p) (gp : M.get p = some ⟨[i64 N, S], 26, 2, 0, true⟩) (gr6h : M.get r6 = some ⟨[i64 0, sln], 26, 2, 0, true⟩) (dpr6 : p ≠ r6) (hN62 : (decide (0 < N) && decide (N < 2 ^ 62)) = true) (hA : AccC 32 4 M0 [p, r6] l.length ((l.map eRow).flatten) S M) (hl30 : l.length < 1073741824) (cc0 : (decide ((((i : Nat) : Int)) < (((m : Nat) : Int)))) = true) (cc1 : (decide ((((i : Nat) : Int)) < (40 : Int))) = true) (cc2 : ((modI md 3) == (0 : Int)) = true) (cc3 : ((modI k 31) == (0 : Int)) = true) (hld0 : aload Try.prog 3 ⟨bb, o + (((i : Nat) : Int) : Int).toNat * 1, none⟩ M0 = some (i64 k)) : ∃ T1 M' S195, Rd Try.prog [] (q11.loopAt 0) Try.f11.ntmps (fr [(1, (sli bb o m c)), (2, (i64 md)), (6, (pt r6 0)), (7, (pt p 0)), (8, (i64 (((i : Nat) : Int))))]) M .normal T1 M' ∧ [1, 2, 6, 7, 8].map T1.get = [some (sli bb o m c), some (i64 md), some (pt r6 0), some (pt p 0), some (i64 (IntKind.wrap .i64 ((((i : Nat) : Int)) + (1 : Int))))] ∧ Ext M0 M' ∧ MemOk M' ∧ M'.get p = some ⟨[(i64 N), S195], 26, 2, 0, true⟩ ∧ M'.get r6 = some ⟨[(i64 0), sln], 26, 2, 0, true⟩ ∧ AccC 32 4 M0 [p, r6] (l.length + 1) ((l.map eRow).flatten ++ [(i64 (modI k N)), (i64 (modI (quoI k 13) N)), (i64 (modI (IntKind.wrap .i64 ((modI k N) + (modI (quoI k 13) N))) 2)), (i64 (IntKind.wrap .i64 ((2147483647 : Int) - (modI (quoI k 31) 3))))]) S195 M' := by
  obtain ⟨R1, eR2⟩ : ∃ m : Mem, m = Mem.mk M.blks M.next M.hide [] := ⟨_, rfl⟩
  have X3 : Ext (Mem.mk M0.blks M0.next M0.hide []) R1 := by rw [eR2]; exact Ext.aside (X0)
  have lg4 : R1.log = [] := by rw [eR2]
  have nxR1 : R1.next = M.next := by rw [eR2]
  have hM5 : MemOk R1 := by rw [eR2]; exact MemOk.log hM
  have ltpM : p < M.next := by have h := Mem.lt_of_get gp; exact h
  have g6 : R1.get p = some ⟨[(i64 N), S], 26, 2, 0, true⟩ := by rw [eR2]; exact gp
  have ltr6M : r6 < M.next := by have h := Mem.lt_of_get gr6h; exact h
  have g7 : R1.get r6 = some ⟨[(i64 0), sln], 26, 2, 0, true⟩ := by rw [eR2]; exact gr6h
  have A8 := hA.same (M' := R1) (fun id b h => by rw [eR2]; exact h)
  obtain ⟨w9, N10, M11, p12, l13, e14, E15, hM16, F17⟩ := call_fc (x := (k, N)) hM5 con24 (⟨⟨_, _, rfl, rfl, rfl⟩, hN62⟩)
  have nx18 := E15.next
  have A19 := A8.ext E15
  have g20 := E15.old g6
  have g21 := E15.old g7
  have ew9 : w9 = (i64 (modI k N)) := F17
  subst ew9
  have lg22 : M11.log = [] := by rw [← e14]; exact lg4
  have X23 := X3.trans E15
  obtain ⟨w24, N25, M26, p27, l28, e29, E30, hM31, F32⟩ := call_fc (x := ((quoI k 13), N)) hM16 con24 (⟨⟨_, _, rfl, rfl, rfl⟩, hN62⟩)
  have nx33 := E30.next
  have A34 := A19.ext E30
  have g35 := E30.old g20
  have g36 := E30.old g21
  have ew24 : w24 = (i64 (modI (quoI k 13) N)) := F32
  subst ew24
  have lg37 : M26.log = [] := by rw [← e29]; exact lg22
  have X38 := X23.trans E30
  obtain ⟨w39, N40, M41, p42, l43, e44, E45, hM46, F47⟩ := call_fc (x := ((quoI k 170), 5)) hM31 con24 (⟨⟨_, _, rfl, rfl, rfl⟩, rfl⟩)
  have nx48 := E45.next
  have A49 := A34.ext E45
  have g50 := E45.old g35
  have g51 := E45.old g36
  have ew39 : w39 = (i64 (modI (quoI k 170) 5)) := F47
  subst ew39
  have lg52 : M41.log = [] := by rw [← e44]; exact lg37
  have X53 := X38.trans E45
  obtain ⟨w54, N55, M56, p57, l58, e59, E60, hM61, F62⟩ := call_fc (x := ((quoI k 900), 9)) hM46 con24 (⟨⟨_, _, rfl, rfl, rfl⟩, rfl⟩)
  have nx63 := E60.next
  have A64 := A49.ext E60
  have g65 := E60.old g50
  have g66 := E60.old g51
  have ew54 : w54 = (i64 (modI (quoI k 900) 9)) := F62
  subst ew54
  have lg67 : M56.log = [] := by rw [← e59]; exact lg52
  have X68 := X53.trans E60
  obtain ⟨b69, M70, eb71, em72, g73, E74, hM75⟩ := new_t hM61 ⟨[(i64 0), (i64 0), (i64 0), (i64 0)], 32, 4, 0, true⟩
  have nb69 : M0.next ≤ b69 := by rw [← eb71]; exact X68.next
  have dpb69 : p ≠ b69 := by have := Mem.lt_of_get g65; omega
  have dr6b69 : r6 ≠ b69 := by have := Mem.lt_of_get g66; omega
  have A76 := A64.new eb71 E74
  have g77 := E74.old g65
  have g78 := E74.old g66
  have lg79 : M70.log = [] := by rw [← em72]; exact lg67
  have nx80 := E74.next
  have X81 := X68.trans E74
  obtain ⟨M82, q83, g84, kp85, X86, hM87, nx88⟩ := store_t (o := 0) (v := (.agg ⟨[(i64 (modI k N)), (i64 (modI (quoI k 13) N)), (i64 (modI (quoI k 170) 5)), (i64 (modI (quoI k 900) 9))]⟩)) (new := [(i64 (modI k N)), (i64 (modI (quoI k 13) N)), (i64 (modI (quoI k 170) 5)), (i64 (modI (quoI k 900) 9))]) X81 nb69 hM75 dS32 g73 rfl rfl (Nat.zero_le _) (Nat.le_of_ble_eq_true rfl) rfl
  replace g84 : M82.get b69 = some ⟨[(i64 (modI k N)), (i64 (modI (quoI k 13) N)), (i64 (modI (quoI k 170) 5)), (i64 (modI (quoI k 900) 9))], 32, 4, 0, true⟩ := g84
  have A89 := A76.keep (by simp) (fun id h _ => kp85 id h)
  have g90 := (kp85 _ dpb69).trans g77
  have g91 := (kp85 _ dr6b69).trans g78
  have lg92 : M82.log = [b69] := by rw [nx88, lg79]
  obtain ⟨M93, ef94⟩ : ∃ m : Mem, m = (Mem.mk M82.blks M82.next M82.hide (M82.log ++ M.log)) := ⟨_, rfl⟩
  have X95 : Ext M0 M93 := by rw [ef94]; exact Ext.join (X0) (X86)
  have hM96 : MemOk M93 := by rw [ef94]; exact hM87
  have g97 : M93.get p = some ⟨[(i64 N), S], 26, 2, 0, true⟩ := by rw [ef94]; exact g90
  have g98 : M93.get r6 = some ⟨[(i64 0), sln], 26, 2, 0, true⟩ := by rw [ef94]; exact g91
  have g99 : M93.get b69 = some ⟨[(i64 (modI k N)), (i64 (modI (quoI k 13) N)), (i64 (modI (quoI k 170) 5)), (i64 (modI (quoI k 900) 9))], 32, 4, 0, true⟩ := by rw [ef94]; exact g84
  have A100 := A89.same (M' := M93) (fun id b h => by rw [ef94]; exact h)
  obtain ⟨w101, N102, M103, p104, l105, e106, E107, hM108, F109⟩ := call_fc (x := (md, 3)) hM96 con24 (⟨⟨_, _, rfl, rfl, rfl⟩, rfl⟩)
  have nx110 := E107.next
  have A111 := A100.ext E107
  have g112 := E107.old g97
  have g113 := E107.old g98
  have g114 := E107.old g99
  have ew101 : w101 = (i64 (modI md 3)) := F109
  subst ew101
  have X115 := X95.trans E107
  obtain ⟨w116, N117, M118, p119, l120, e121, E122, hM123, F124⟩ := call_fc (x := ((IntKind.wrap .i64 ((modI k N) + (modI (quoI k 13) N))), 2)) hM108 con24 (⟨⟨_, _, rfl, rfl, rfl⟩, rfl⟩)
  have nx125 := E122.next
  have A126 := A111.ext E122
  have g127 := E122.old g112
  have g128 := E122.old g113
  have g129 := E122.old g114
  have ew116 : w116 = (i64 (modI (IntKind.wrap .i64 ((modI k N) + (modI (quoI k 13) N))) 2)) := F124
  subst ew116
  have X130 := X115.trans E122
  obtain ⟨M131, q132, g133, kp134, X135, hM136, nx137⟩ := store_t (o := 2) (v := (i64 (modI (IntKind.wrap .i64 ((modI k N) + (modI (quoI k 13) N))) 2))) (new := [(i64 (modI k N)), (i64 (modI (quoI k 13) N)), (i64 (modI (IntKind.wrap .i64 ((modI k N) + (modI (quoI k 13) N))) 2)), (i64 (modI (quoI k 900) 9))]) X130 nb69 hM123 dS3 g129 rfl rfl (Nat.zero_le _) (Nat.le_of_ble_eq_true rfl) rfl
  replace g133 : M131.get b69 = some ⟨[(i64 (modI k N)), (i64 (modI (quoI k 13) N)), (i64 (modI (IntKind.wrap .i64 ((modI k N) + (modI (quoI k 13) N))) 2)), (i64 (modI (quoI k 900) 9))], 32, 4, 0, true⟩ := g133
  have A138 := A126.keep (by simp) (fun id h _ => kp134 id h)
  have g139 := (kp134 _ dpb69).trans g127
  have g140 := (kp134 _ dr6b69).trans g128
  obtain ⟨w141, N142, M143, p144, l145, e146, E147, hM148, F149⟩ := call_fc (x := (k, 31)) hM136 con24 (⟨⟨_, _, rfl, rfl, rfl⟩, rfl⟩)
  have nx150 := E147.next
  have A151 := A138.ext E147
  have g152 := E147.old g139
  have g153 := E147.old g140
  have g154 := E147.old g133
  have ew141 : w141 = (i64 (modI k 31)) := F149
  subst ew141
  have X155 := X135.trans E147
  obtain ⟨w156, N157, M158, p159, l160, e161, E162, hM163, F164⟩ := call_fc (x := ((quoI k 31), 3)) hM148 con24 (⟨⟨_, _, rfl, rfl, rfl⟩, rfl⟩)
  have nx165 := E162.next
  have A166 := A151.ext E162
  have g167 := E162.old g152
  have g168 := E162.old g153
  have g169 := E162.old g154
  have ew156 : w156 = (i64 (modI (quoI k 31) 3)) := F164
  subst ew156
  have X170 := X155.trans E162
  obtain ⟨M171, q172, g173, kp174, X175, hM176, nx177⟩ := store_t (o := 3) (v := (i64 (IntKind.wrap .i64 ((2147483647 : Int) - (modI (quoI k 31) 3))))) (new := [(i64 (modI k N)), (i64 (modI (quoI k 13) N)), (i64 (modI (IntKind.wrap .i64 ((modI k N) + (modI (quoI k 13) N))) 2)), (i64 (IntKind.wrap .i64 ((2147483647 : Int) - (modI (quoI k 31) 3))))]) X170 nb69 hM163 dS3 g169 rfl rfl (Nat.zero_le _) (Nat.le_of_ble_eq_true rfl) rfl
  replace g173 : M171.get b69 = some ⟨[(i64 (modI k N)), (i64 (modI (quoI k 13) N)), (i64 (modI (IntKind.wrap .i64 ((modI k N) + (modI (quoI k 13) N))) 2)), (i64 (IntKind.wrap .i64 ((2147483647 : Int) - (modI (quoI k 31) 3))))], 32, 4, 0, true⟩ := g173
  have A178 := A166.keep (by simp) (fun id h _ => kp174 id h)
  have g179 := (kp174 _ dpb69).trans g167
  have g180 := (kp174 _ dr6b69).trans g168
  obtain ⟨b181, M182, eb183, em184, g185, E186, hM187⟩ := new_t hM176 ⟨[(i64 (modI k N)), (i64 (modI (quoI k 13) N)), (i64 (modI (IntKind.wrap .i64 ((modI k N) + (modI (quoI k 13) N))) 2)), (i64 (IntKind.wrap .i64 ((2147483647 : Int) - (modI (quoI k 31) 3))))], 32, 4, 0, true⟩
  have nb181 : M0.next ≤ b181 := by rw [← eb183]; exact X175.next
  have dpb181 : p ≠ b181 := by have := Mem.lt_of_get g179; omega
  have dr6b181 : r6 ≠ b181 := by have := Mem.lt_of_get g180; omega
  have db69b181 : b69 ≠ b181 := by have := Mem.lt_of_get g173; omega
  have A188 := A178.new eb183 E186
  have g189 := E186.old g179
  have g190 := E186.old g180
  have g191 := E186.old g173
  have nx192 := E186.next
  have X193 := X175.trans E186
  obtain ⟨t194, S195, M196, q197, X198, hM199, A200, kb201, ka202⟩ := accc_append (P := Try.prog) (sT := 24) (xT := 24) (y := 32) (c := 2) A188 X193 hM187 (by intro x hx; simp only [List.mem_cons, List.not_mem_nil, or_false] at hx; rcases hx with rfl | rfl | rfl | rfl <;> first | exact Mem.lt_of_get g185 | exact Mem.lt_of_get g191 | exact Mem.lt_of_get g189 | exact Mem.lt_of_get g190) (by kernel_rfl) (by kernel_rfl) (by kernel_rfl) (by kernel_rfl) (by decide) (by decide) rfl hl30 g185 (o := 0) (new := [(i64 (modI k N)), (i64 (modI (quoI k 13) N)), (i64 (modI (IntKind.wrap .i64 ((modI k N) + (modI (quoI k 13) N))) 2)), (i64 (IntKind.wrap .i64 ((2147483647 : Int) - (modI (quoI k 31) 3))))]) rfl rfl rfl
  have g203 := kb201 _ _ g189 (by simp)
  have g204 := kb201 _ _ g190 (by simp)
  have g205 := kb201 _ _ g191 (by simp)
  have g206 := kb201 _ _ g185 (by simp)
  obtain ⟨M207, q208, g209, kp210, X211, hM212, nx213⟩ := store_t (o := 1) (v := S195) (new := [(i64 N), S195]) X198 np hM199 dS24 g203 (by rw [cells_cell A200.isCell]; rfl) (by rw [cells_cell A200.isCell]; show (isCell _ && true) = true; rw [A200.isCell]; rfl) (Nat.zero_le _) (Nat.le_of_ble_eq_true rfl) (by rw [cells_cell A200.isCell]; rfl)
  replace g209 : M207.get p = some ⟨[(i64 N), S195], 26, 2, 0, true⟩ := g209
  have A214 := A200.keep (by simp) (fun id h _ => kp210 id h)
  have g215 := (kp210 _ (Ne.symm dpr6)).trans g204
  have g216 := (kp210 _ (Ne.symm dpb69)).trans g205
  have g217 := (kp210 _ (Ne.symm dpb181)).trans g206
  have hraw := r90z_raw p r6 bb o m c i N md k S l M  M11 M26 M41 M56 b69 (Mem.mk M70.blks M70.next (hides 0 [⟨14, 1, M41.next, M56.next⟩, ⟨11, 1, M26.next, M41.next⟩, ⟨8, 1, M11.next, M26.next⟩, ⟨3, 1, M.next, M11.next⟩, ⟨2, 1, M.next, M.next⟩] ++ M.hide) M70.log) M82 M103 M118 M131 M143 M158 M171 b181 M182 t194 S195 M196 M207
  dsimp only at hraw
  have rw0 : Mem.mk M.blks M.next M.hide [] = R1 := eR2.symm
  have rw1 : Mem.mk M11.blks M11.next M.hide M11.log = M11 := by rw [(show M.hide = M11.hide from ((X0).hide.trans (X23).hide.symm))]
  have rw2 : Mem.mk M11.blks M11.next (hides 64 [⟨3, 1, M.next, M11.next⟩, ⟨2, 1, M.next, M.next⟩] ++ M.hide) M11.log = hidx (hides 64 [⟨3, 1, M.next, M11.next⟩, ⟨2, 1, M.next, M.next⟩]) M11 := by rw [(show M.hide = M11.hide from ((X0).hide.trans (X23).hide.symm))]; rfl
  have rw3 : Mem.mk M26.blks M26.next M.hide M26.log = M26 := by rw [(show M.hide = M26.hide from ((X0).hide.trans (X38).hide.symm))]
  have rw4 : Mem.mk M41.blks M41.next M.hide M41.log = M41 := by rw [(show M.hide = M41.hide from ((X0).hide.trans (X53).hide.symm))]
  have rw5 : Mem.mk M56.blks M56.next M.hide M56.log = M56 := by rw [(show M.hide = M56.hide from ((X0).hide.trans (X68).hide.symm))]
  have rw6 : Mem.mk M70.blks M70.next M.hide M70.log = M70 := by rw [(show M.hide = M70.hide from ((X0).hide.trans (X81).hide.symm))]
  have rw7 : Mem.mk M82.blks M82.next M.hide M82.log = M82 := by rw [(show M.hide = M82.hide from ((X0).hide.trans (X86).hide.symm))]
  have rw8 : (Mem.mk M82.blks M82.next M.hide (M82.log ++ M.log)) = (Mem.mk M82.blks M82.next M82.hide (M82.log ++ M.log)) := by rw [(show M.hide = M82.hide from ((X0).hide.trans (X86).hide.symm))]
  have rw9 : (Mem.mk M82.blks M82.next M82.hide (M82.log ++ M.log)) = M93 := ef94.symm
  try rw [rw0] at hraw
  try rw [rw1] at hraw
  try rw [rw2] at hraw
  try rw [rw3] at hraw
  try rw [rw4] at hraw
  try rw [rw5] at hraw
  try rw [rw6] at hraw
  try rw [rw7] at hraw
  try rw [rw8] at hraw
  try rw [rw9] at hraw
  obtain ⟨T1, h1, h2⟩ := Rd.told noNumP mixedP (fun B => specsB_ok (k := []) (hS9_19 B) (fun p hp => by cases hp)) (fun _ _ => rfl) hraw (hk (bT cc0) (hk (bT cc0) (hk (bT cc0) (hk (bT cc1) (hk (q_inb (by omega) (by simp at cc0; omega)) (hk (q_ld (aload_ext X0 hld0)) (hk (lC dC3 g6 rfl) (hk (q_call rfl p12 l13 e14) (hk (lC dC3 (hidx_get.2 ⟨hides_low (by simp; omega), g20⟩) rfl) (hk (q_lt ltpM) (hk (q_call rfl p27 l28 e29) (hk (q_call rfl p42 l43 e44) (hk (q_call rfl p57 l58 e59) (hk (q_eq (by rw [← eb71, ← em72]; kernel_rfl) Nat.one_ne_zero) (hk (q_st q83) (hk (q_apart (by rw [lg92]; simp <;> omega)) (hk (q_call rfl p104 l105 e106) (hk (bT cc2) (hk (lC dC3 g114 rfl) (hk (lC dC3 g114 rfl) (hk (q_call rfl p119 l120 e121) (hk (q_st q132) (hk (q_call rfl p144 l145 e146) (hk (bT cc3) (hk (q_call rfl p159 l160 e161) (hk (q_st q172) (hk (lC dC24 g179 rfl) (hk (lA ⟨dA32, dS32⟩ g173 rfl) (hk (q_eq (by rw [← eb183, ← em184]; kernel_rfl) Nat.one_ne_zero) (hk (q_app q197 (by cases t194 <;> simp)) (hk (q_st q208) hn)))))))))))))))))))))))))))))))
  exact ⟨T1, M207, S195, h1, h2, X211, hM212, g209, g215, A214.less (by intro x hx; simp only [List.mem_cons, List.not_mem_nil, or_false] at hx; rcases hx with rfl | rfl <;> simp)⟩
theorem r90y_raw (p r6 bb o m c i : Nat) (N md k : Int) (S : Value) (l : List E4) (M : Mem) (M11 : Mem) (M26 : Mem) (M41 : Mem) (M56 : Mem) (b69 : Nat) (M70 : Mem) (M82 : Mem) (M103 : Mem) (M118 : Mem) (M131 : Mem) (M143 : Mem) (b156 : Nat) (M157 : Mem) (t169 : Bool) (S170 : Value) (M171 : Mem) (M182 : Mem) : oR Try.prog [] 100 Try.f11 (q11.loopAt 0) [(1, (sli bb o m c)), (2, (i64 md)), (6, (pt r6 0)), (7, (pt p 0)), (8, (i64 (((i : Nat) : Int))))] M [ttT 10, ttT 12, ttT 15, ttT 16, ttT 22, ttL 24 (i64 k), ttL 32 (i64 N), ttV 34 (i64 (modI k N)) M11, ttL 42 (i64 N), ttV 44 (i64 (modI (quoI k 13) N)) M26, ttV 50 (i64 (modI (quoI k 170) 5)) M41, ttV 56 (i64 (modI (quoI k 900) 9)) M56, ttV 60 (pt b69 0) M70, ttS 62 M82, ttV 66 (i64 (modI md 3)) M103, ttT 69, ttL 73 (i64 (modI k N)), ttL 77 (i64 (modI (quoI k 13) N)), ttV 81 (i64 (modI (IntKind.wrap .i64 ((modI k N) + (modI (quoI k 13) N))) 2)) M118, ttS 85 M131, ttV 89 (i64 (modI k 31)) M143, ttF 92, ttL 96 S, ttL 98 (.agg ⟨[(i64 (modI k N)), (i64 (modI (quoI k 13) N)), (i64 (modI (IntKind.wrap .i64 ((modI k N) + (modI (quoI k 13) N))) 2)), (i64 (modI (quoI k 900) 9))]⟩), ttV 100 (sli b156 0 1 2) M157, .at 102 ((bif t169 then 1 else 2), .val S170, M171), ttS 106 M182] [1, 2, 6, 7, 8] = some (.normal, [some (sli bb o m c), some (i64 md), some (pt r6 0), some (pt p 0), some (i64 (IntKind.wrap .i64 ((((i : Nat) : Int)) + (1 : Int))))], M182, [qT (decide ((((i : Nat) : Int)) < (((m : Nat) : Int)))), qT (decide ((((i : Nat) : Int)) < (((m : Nat) : Int)))), qT (decide ((((i : Nat) : Int)) < (((m : Nat) : Int)))), qT (decide ((((i : Nat) : Int)) < (40 : Int))), .q (.inb (((i : Nat) : Int)) m) (ansB true), qL 3 bb (o + (((i : Nat) : Int) : Int).toNat * 1) M (i64 k), qL 3 p 0 (Mem.mk M.blks M.next M.hide []) (i64 N), qC 24 [(i64 k), (i64 N)] (Mem.mk M.blks M.next M.hide []) (i64 (modI k N)) M11, qL 3 p 0 (Mem.mk M11.blks M11.next (hides 64 [⟨3, 1, M.next, M11.next⟩, ⟨2, 1, M.next, M.next⟩] ++ M.hide) M11.log) (i64 N), qT (Nat.blt p M.next), qC 24 [(i64 (quoI k 13)), (i64 N)] (Mem.mk M11.blks M11.next M.hide M11.log) (i64 (modI (quoI k 13) N)) M26, qC 24 [(i64 (quoI k 170)), (i64 5)] (Mem.mk M26.blks M26.next M.hide M26.log) (i64 (modI (quoI k 170) 5)) M41, qC 24 [(i64 (quoI k 900)), (i64 9)] (Mem.mk M41.blks M41.next M.hide M41.log) (i64 (modI (quoI k 900) 9)) M56, .eq (aalloc Try.prog 32 (Mem.mk M56.blks M56.next (hides 0 [⟨14, 1, M41.next, M56.next⟩, ⟨11, 1, M26.next, M41.next⟩, ⟨8, 1, M11.next, M26.next⟩, ⟨3, 1, M.next, M11.next⟩, ⟨2, 1, M.next, M.next⟩] ++ M.hide) M56.log)) (1, .val (pt b69 0), M70), qS 32 b69 0 (.agg ⟨[(i64 (modI k N)), (i64 (modI (quoI k 13) N)), (i64 (modI (quoI k 170) 5)), (i64 (modI (quoI k 900) 9))]⟩) (Mem.mk M70.blks M70.next M.hide M70.log) M82, qT (apartN [p] M82.log), qC 24 [(i64 md), (i64 3)] (Mem.mk M82.blks M82.next M.hide (M82.log ++ M.log)) (i64 (modI md 3)) M103, qT ((modI md 3) == (0 : Int)), qL 3 b69 0 M103 (i64 (modI k N)), qL 3 b69 1 M103 (i64 (modI (quoI k 13) N)), qC 24 [(i64 (IntKind.wrap .i64 ((modI k N) + (modI (quoI k 13) N)))), (i64 2)] M103 (i64 (modI (IntKind.wrap .i64 ((modI k N) + (modI (quoI k 13) N))) 2)) M118, qS 3 b69 2 (i64 (modI (IntKind.wrap .i64 ((modI k N) + (modI (quoI k 13) N))) 2)) M118 M131, qC 24 [(i64 k), (i64 31)] M131 (i64 (modI k 31)) M143, qF ((modI k 31) == (0 : Int)), qL 24 p 1 M143 S, qL 32 b69 0 M143 (.agg ⟨[(i64 (modI k N)), (i64 (modI (quoI k 13) N)), (i64 (modI (IntKind.wrap .i64 ((modI k N) + (modI (quoI k 13) N))) 2)), (i64 (modI (quoI k 900) 9))]⟩), .eq (abuildSlice Try.prog 24 1 [(0, (.agg ⟨[(i64 (modI k N)), (i64 (modI (quoI k 13) N)), (i64 (modI (IntKind.wrap .i64 ((modI k N) + (modI (quoI k 13) N))) 2)), (i64 (modI (quoI k 900) 9))]⟩))] M143) (1, .val (sli b156 0 1 2), M157), .q (.append [24, 24] S (sli b156 0 1 2) M157) ((bif t169 then 1 else 2), .val S170, M171), qS 24 p 1 S170 M171 M182]) := by cases t169 <;> kernel_rfl
theorem r90y (p r6 bb o m c i : Nat) (N md k : Int) (S : Value) (l : List E4) {M M0 : Mem} (hM : MemOk M) (X0 : Ext M0 M) (np : M0.next ≤ p) (gp : M.get p = some ⟨[i64 N, S], 26, 2, 0, true⟩) (gr6h : M.get r6 = some ⟨[i64 0, sln], 26, 2, 0, true⟩) (dpr6 : p ≠ r6) (hN62 : (decide (0 < N) && decide (N < 2 ^ 62)) = true) (hA : AccC 32 4 M0 [p, r6] l.length ((l.map eRow).flatten) S M) (hl30 : l.length < 1073741824) (cc0 : (decide ((((i : Nat) : Int)) < (((m : Nat) : Int)))) = true) (cc1 : (decide ((((i : Nat) : Int)) < (40 : Int))) = true) (cc2 : ((modI md 3) == (0 : Int)) = true) (cc3 : ((modI k 31) == (0 : Int)) = false) (hld0 : aload Try.prog 3 ⟨bb, o + (((i : Nat) : Int) : Int).toNat * 1, none⟩ M0 = some (i64 k)) : ∃ T1 M' S170, Rd Try.prog [] (q11.loopAt 0) Try.f11.ntmps (fr [(1, (sli bb o m c)), (2, (i64 md)), (6, (pt r6 0)), (7, (pt p 0)), (8, (i64 (((i : Nat) : Int))))]) M .normal T1 M' ∧ [1, 2, 6, 7, 8].map T1.get = [some (sli bb o m c), some (i64 md), some (pt r6 0), some (pt p 0), some (i64 (IntKind.wrap .i64 ((((i : Nat) : Int)) + (1 : Int))))] ∧ Ext M0 M' ∧ MemOk M' ∧ M'.get p = some ⟨[(i64 N), S170], 26, 2, 0, true⟩ ∧ M'.get r6 = some ⟨[(i64 0), sln], 26, 2, 0, true⟩ ∧ AccC 32 4 M0 [p, r6] (l.length + 1) ((l.map eRow).flatten ++ [(i64 (modI k N)), (i64 (modI (quoI k 13) N)), (i64 (modI (IntKind.wrap .i64 ((modI k N) + (modI (quoI k 13) N))) 2)), (i64 (modI (quoI k 900) 9))]) S170 M' := by
  obtain ⟨R1, eR2⟩ : ∃ m : Mem, m = Mem.mk M.blks M.next M.hide [] := ⟨_, rfl⟩
  have X3 : Ext (Mem.mk M0.blks M0.next M0.hide []) R1 := by rw [eR2]; exact Ext.aside (X0)
  have lg4 : R1.log = [] := by rw [eR2]
  have nxR1 : R1.next = M.next := by rw [eR2]
  have hM5 : MemOk R1 := by rw [eR2]; exact MemOk.log hM
  have ltpM : p < M.next := by have h := Mem.lt_of_get gp; exact h
  have g6 : R1.get p = some ⟨[(i64 N), S], 26, 2, 0, true⟩ := by rw [eR2]; exact gp
  have ltr6M : r6 < M.next := by have h := Mem.lt_of_get gr6h; exact h
  have g7 : R1.get r6 = some ⟨[(i64 0), sln], 26, 2, 0, true⟩ := by rw [eR2]; exact gr6h
  have A8 := hA.same (M' := R1) (fun id b h => by rw [eR2]; exact h)
  obtain ⟨w9, N10, M11, p12, l13, e14, E15, hM16, F17⟩ := call_fc (x := (k, N)) hM5 con24 (⟨⟨_, _, rfl, rfl, rfl⟩, hN62⟩)
  have nx18 := E15.next
  have A19 := A8.ext E15
  have g20 := E15.old g6
  have g21 := E15.old g7
  have ew9 : w9 = (i64 (modI k N)) := F17
  subst ew9
  have lg22 : M11.log = [] := by rw [← e14]; exact lg4
  have X23 := X3.trans E15
  obtain ⟨w24, N25, M26, p27, l28, e29, E30, hM31, F32⟩ := call_fc (x := ((quoI k 13), N)) hM16 con24 (⟨⟨_, _, rfl, rfl, rfl⟩, hN62⟩)
  have nx33 := E30.next
  have A34 := A19.ext E30
  have g35 := E30.old g20
  have g36 := E30.old g21
  have ew24 : w24 = (i64 (modI (quoI k 13) N)) := F32
  subst ew24
  have lg37 : M26.log = [] := by rw [← e29]; exact lg22
  have X38 := X23.trans E30
  obtain ⟨w39, N40, M41, p42, l43, e44, E45, hM46, F47⟩ := call_fc (x := ((quoI k 170), 5)) hM31 con24 (⟨⟨_, _, rfl, rfl, rfl⟩, rfl⟩)
  have nx48 := E45.next
  have A49 := A34.ext E45
  have g50 := E45.old g35
  have g51 := E45.old g36
  have ew39 : w39 = (i64 (modI (quoI k 170) 5)) := F47
  subst ew39
  have lg52 : M41.log = [] := by rw [← e44]; exact lg37
  have X53 := X38.trans E45
  obtain ⟨w54, N55, M56, p57, l58, e59, E60, hM61, F62⟩ := call_fc (x := ((quoI k 900), 9)) hM46 con24 (⟨⟨_, _, rfl, rfl, rfl⟩, rfl⟩)
  have nx63 := E60.next
  have A64 := A49.ext E60
  have g65 := E60.old g50
  have g66 := E60.old g51
  have ew54 : w54 = (i64 (modI (quoI k 900) 9)) := F62
  subst ew54
  have lg67 : M56.log = [] := by rw [← e59]; exact lg52
  have X68 := X53.trans E60
  obtain ⟨b69, M70, eb71, em72, g73, E74, hM75⟩ := new_t hM61 ⟨[(i64 0), (i64 0), (i64 0), (i64 0)], 32, 4, 0, true⟩
  have nb69 : M0.next ≤ b69 := by rw [← eb71]; exact X68.next
  have dpb69 : p ≠ b69 := by have := Mem.lt_of_get g65; omega
  have dr6b69 : r6 ≠ b69 := by have := Mem.lt_of_get g66; omega
  have A76 := A64.new eb71 E74
  have g77 := E74.old g65
  have g78 := E74.old g66
  have lg79 : M70.log = [] := by rw [← em72]; exact lg67
  have nx80 := E74.next
  have X81 := X68.trans E74
  obtain ⟨M82, q83, g84, kp85, X86, hM87, nx88⟩ := store_t (o := 0) (v := (.agg ⟨[(i64 (modI k N)), (i64 (modI (quoI k 13) N)), (i64 (modI (quoI k 170) 5)), (i64 (modI (quoI k 900) 9))]⟩)) (new := [(i64 (modI k N)), (i64 (modI (quoI k 13) N)), (i64 (modI (quoI k 170) 5)), (i64 (modI (quoI k 900) 9))]) X81 nb69 hM75 dS32 g73 rfl rfl (Nat.zero_le _) (Nat.le_of_ble_eq_true rfl) rfl
  replace g84 : M82.get b69 = some ⟨[(i64 (modI k N)), (i64 (modI (quoI k 13) N)), (i64 (modI (quoI k 170) 5)), (i64 (modI (quoI k 900) 9))], 32, 4, 0, true⟩ := g84
  have A89 := A76.keep (by simp) (fun id h _ => kp85 id h)
  have g90 := (kp85 _ dpb69).trans g77
  have g91 := (kp85 _ dr6b69).trans g78
  have lg92 : M82.log = [b69] := by rw [nx88, lg79]
  obtain ⟨M93, ef94⟩ : ∃ m : Mem, m = (Mem.mk M82.blks M82.next M82.hide (M82.log ++ M.log)) := ⟨_, rfl⟩
  have X95 : Ext M0 M93 := by rw [ef94]; exact Ext.join (X0) (X86)
  have hM96 : MemOk M93 := by rw [ef94]; exact hM87
  have g97 : M93.get p = some ⟨[(i64 N), S], 26, 2, 0, true⟩ := by rw [ef94]; exact g90
  have g98 : M93.get r6 = some ⟨[(i64 0), sln], 26, 2, 0, true⟩ := by rw [ef94]; exact g91
  have g99 : M93.get b69 = some ⟨[(i64 (modI k N)), (i64 (modI (quoI k 13) N)), (i64 (modI (quoI k 170) 5)), (i64 (modI (quoI k 900) 9))], 32, 4, 0, true⟩ := by rw [ef94]; exact g84
  have A100 := A89.same (M' := M93) (fun id b h => by rw [ef94]; exact h)
  obtain ⟨w101, N102, M103, p104, l105, e106, E107, hM108, F109⟩ := call_fc (x := (md, 3)) hM96 con24 (⟨⟨_, _, rfl, rfl, rfl⟩, rfl⟩)
  have nx110 := E107.next
  have A111 := A100.ext E107
  have g112 := E107.old g97
  have g113 := E107.old g98
  have g114 := E107.old g99
  have ew101 : w101 = (i64 (modI md 3)) := F109
  subst ew101
  have X115 := X95.trans E107
  obtain ⟨w116, N117, M118, p119, l120, e121, E122, hM123, F124⟩ := call_fc (x := ((IntKind.wrap .i64 ((modI k N) + (modI (quoI k 13) N))), 2)) hM108 con24 (⟨⟨_, _, rfl, rfl, rfl⟩, rfl⟩)
  have nx125 := E122.next
  have A126 := A111.ext E122
  have g127 := E122.old g112
  have g128 := E122.old g113
  have g129 := E122.old g114
  have ew116 : w116 = (i64 (modI (IntKind.wrap .i64 ((modI k N) + (modI (quoI k 13) N))) 2)) := F124
  subst ew116
  have X130 := X115.trans E122
  obtain ⟨M131, q132, g133, kp134, X135, hM136, nx137⟩ := store_t (o := 2) (v := (i64 (modI (IntKind.wrap .i64 ((modI k N) + (modI (quoI k 13) N))) 2))) (new := [(i64 (modI k N)), (i64 (modI (quoI k 13) N)), (i64 (modI (IntKind.wrap .i64 ((modI k N) + (modI (quoI k 13) N))) 2)), (i64 (modI (quoI k 900) 9))]) X130 nb69 hM123 dS3 g129 rfl rfl (Nat.zero_le _) (Nat.le_of_ble_eq_true rfl) rfl
  replace g133 : M131.get b69 = some ⟨[(i64 (modI k N)), (i64 (modI (quoI k 13) N)), (i64 (modI (IntKind.wrap .i64 ((modI k N) + (modI (quoI k 13) N))) 2)), (i64 (modI (quoI k 900) 9))], 32, 4, 0, true⟩ := g133
  have A138 := A126.keep (by simp) (fun id h _ => kp134 id h)
  have g139 := (kp134 _ dpb69).trans g127
  have g140 := (kp134 _ dr6b69).trans g128
  obtain ⟨w141, N142, M143, p144, l145, e146, E147, hM148, F149⟩ := call_fc (x := (k, 31)) hM136 con24 (⟨⟨_, _, rfl, rfl, rfl⟩, rfl⟩)
  have nx150 := E147.next
  have A151 := A138.ext E147
  have g152 := E147.old g139
  have g153 := E147.old g140
  have g154 := E147.old g133
  have ew141 : w141 = (i64 (modI k 31)) := F149
  subst ew141
  have X155 := X135.trans E147
  obtain ⟨b156, M157, eb158, em159, g160, E161, hM162⟩ := new_t hM148 ⟨[(i64 (modI k N)), (i64 (modI (quoI k 13) N)), (i64 (modI (IntKind.wrap .i64 ((modI k N) + (modI (quoI k 13) N))) 2)), (i64 (modI (quoI k 900) 9))], 32, 4, 0, true⟩
  have nb156 : M0.next ≤ b156 := by rw [← eb158]; exact X155.next
  have dpb156 : p ≠ b156 := by have := Mem.lt_of_get g152; omega
  have dr6b156 : r6 ≠ b156 := by have := Mem.lt_of_get g153; omega
  have db69b156 : b69 ≠ b156 := by have := Mem.lt_of_get g154; omega
  have A163 := A151.new eb158 E161
  have g164 := E161.old g152
  have g165 := E161.old g153
  have g166 := E161.old g154
  have nx167 := E161.next
  have X168 := X155.trans E161
  obtain ⟨t169, S170, M171, q172, X173, hM174, A175, kb176, ka177⟩ := accc_append (P := Try.prog) (sT := 24) (xT := 24) (y := 32) (c := 2) A163 X168 hM162 (by intro x hx; simp only [List.mem_cons, List.not_mem_nil, or_false] at hx; rcases hx with rfl | rfl | rfl | rfl <;> first | exact Mem.lt_of_get g160 | exact Mem.lt_of_get g166 | exact Mem.lt_of_get g164 | exact Mem.lt_of_get g165) (by kernel_rfl) (by kernel_rfl) (by kernel_rfl) (by kernel_rfl) (by decide) (by decide) rfl hl30 g160 (o := 0) (new := [(i64 (modI k N)), (i64 (modI (quoI k 13) N)), (i64 (modI (IntKind.wrap .i64 ((modI k N) + (modI (quoI k 13) N))) 2)), (i64 (modI (quoI k 900) 9))]) rfl rfl rfl
  have g178 := kb176 _ _ g164 (by simp)
  have g179 := kb176 _ _ g165 (by simp)
  have g180 := kb176 _ _ g166 (by simp)
  have g181 := kb176 _ _ g160 (by simp)
  obtain ⟨M182, q183, g184, kp185, X186, hM187, nx188⟩ := store_t (o := 1) (v := S170) (new := [(i64 N), S170]) X173 np hM174 dS24 g178 (by rw [cells_cell A175.isCell]; rfl) (by rw [cells_cell A175.isCell]; show (isCell _ && true) = true; rw [A175.isCell]; rfl) (Nat.zero_le _) (Nat.le_of_ble_eq_true rfl) (by rw [cells_cell A175.isCell]; rfl)
  replace g184 : M182.get p = some ⟨[(i64 N), S170], 26, 2, 0, true⟩ := g184
  have A189 := A175.keep (by simp) (fun id h _ => kp185 id h)
  have g190 := (kp185 _ (Ne.symm dpr6)).trans g179
  have g191 := (kp185 _ (Ne.symm dpb69)).trans g180
  have g192 := (kp185 _ (Ne.symm dpb156)).trans g181
  have hraw := r90y_raw p r6 bb o m c i N md k S l M  M11 M26 M41 M56 b69 (Mem.mk M70.blks M70.next (hides 0 [⟨14, 1, M41.next, M56.next⟩, ⟨11, 1, M26.next, M41.next⟩, ⟨8, 1, M11.next, M26.next⟩, ⟨3, 1, M.next, M11.next⟩, ⟨2, 1, M.next, M.next⟩] ++ M.hide) M70.log) M82 M103 M118 M131 M143 b156 M157 t169 S170 M171 M182
  dsimp only at hraw
  have rw0 : Mem.mk M.blks M.next M.hide [] = R1 := eR2.symm
  have rw1 : Mem.mk M11.blks M11.next M.hide M11.log = M11 := by rw [(show M.hide = M11.hide from ((X0).hide.trans (X23).hide.symm))]
  have rw2 : Mem.mk M11.blks M11.next (hides 64 [⟨3, 1, M.next, M11.next⟩, ⟨2, 1, M.next, M.next⟩] ++ M.hide) M11.log = hidx (hides 64 [⟨3, 1, M.next, M11.next⟩, ⟨2, 1, M.next, M.next⟩]) M11 := by rw [(show M.hide = M11.hide from ((X0).hide.trans (X23).hide.symm))]; rfl
  have rw3 : Mem.mk M26.blks M26.next M.hide M26.log = M26 := by rw [(show M.hide = M26.hide from ((X0).hide.trans (X38).hide.symm))]
  have rw4 : Mem.mk M41.blks M41.next M.hide M41.log = M41 := by rw [(show M.hide = M41.hide from ((X0).hide.trans (X53).hide.symm))]
  have rw5 : Mem.mk M56.blks M56.next M.hide M56.log = M56 := by rw [(show M.hide = M56.hide from ((X0).hide.trans (X68).hide.symm))]
  have rw6 : Mem.mk M70.blks M70.next M.hide M70.log = M70 := by rw [(show M.hide = M70.hide from ((X0).hide.trans (X81).hide.symm))]
  have rw7 : Mem.mk M82.blks M82.next M.hide M82.log = M82 := by rw [(show M.hide = M82.hide from ((X0).hide.trans (X86).hide.symm))]
  have rw8 : (Mem.mk M82.blks M82.next M.hide (M82.log ++ M.log)) = (Mem.mk M82.blks M82.next M82.hide (M82.log ++ M.log)) := by rw [(show M.hide = M82.hide from ((X0).hide.trans (X86).hide.symm))]
  have rw9 : (Mem.mk M82.blks M82.next M82.hide (M82.log ++ M.log)) = M93 := ef94.symm
  try rw [rw0] at hraw
  try rw [rw1] at hraw
  try rw [rw2] at hraw
  try rw [rw3] at hraw
  try rw [rw4] at hraw
  try rw [rw5] at hraw
  try rw [rw6] at hraw
  try rw [rw7] at hraw
  try rw [rw8] at hraw
  try rw [rw9] at hraw
  obtain ⟨T1, h1, h2⟩ := Rd.told noNumP mixedP (fun B => specsB_ok (k := []) (hS9_19 B) (fun p hp => by cases hp)) (fun _ _ => rfl) hraw (hk (bT cc0) (hk (bT cc0) (hk (bT cc0) (hk (bT cc1) (hk (q_inb (by omega) (by simp at cc0; omega)) (hk (q_ld (aload_ext X0 hld0)) (hk (lC dC3 g6 rfl) (hk (q_call rfl p12 l13 e14) (hk (lC dC3 (hidx_get.2 ⟨hides_low (by simp; omega), g20⟩) rfl) (hk (q_lt ltpM) (hk (q_call rfl p27 l28 e29) (hk (q_call rfl p42 l43 e44) (hk (q_call rfl p57 l58 e59) (hk (q_eq (by rw [← eb71, ← em72]; kernel_rfl) Nat.one_ne_zero) (hk (q_st q83) (hk (q_apart (by rw [lg92]; simp <;> omega)) (hk (q_call rfl p104 l105 e106) (hk (bT cc2) (hk (lC dC3 g114 rfl) (hk (lC dC3 g114 rfl) (hk (q_call rfl p119 l120 e121) (hk (q_st q132) (hk (q_call rfl p144 l145 e146) (hk (bF cc3) (hk (lC dC24 g152 rfl) (hk (lA ⟨dA32, dS32⟩ g154 rfl) (hk (q_eq (by rw [← eb158, ← em159]; kernel_rfl) Nat.one_ne_zero) (hk (q_app q172 (by cases t169 <;> simp)) (hk (q_st q183) hn)))))))))))))))))))))))))))))
  exact ⟨T1, M182, S170, h1, h2, X186, hM187, g184, g190, A189.less (by intro x hx; simp only [List.mem_cons, List.not_mem_nil, or_false] at hx; rcases hx with rfl | rfl <;> simp)⟩
theorem r91z_raw (p r6 bb o m c i : Nat) (N md k : Int) (S : Value) (l : List E4) (M : Mem) (M11 : Mem) (M26 : Mem) (M41 : Mem) (M56 : Mem) (b69 : Nat) (M70 : Mem) (M82 : Mem) (M103 : Mem) (M118 : Mem) (M133 : Mem) (M146 : Mem) (M158 : Mem) (M173 : Mem) (M186 : Mem) (b196 : Nat) (M197 : Mem) (t209 : Bool) (S210 : Value) (M211 : Mem) (M222 : Mem) : oR Try.prog [] 100 Try.f11 (q11.loopAt 0) [(1, (sli bb o m c)), (2, (i64 md)), (6, (pt r6 0)), (7, (pt p 0)), (8, (i64 (((i : Nat) : Int))))] M [ttT 10, ttT 12, ttT 15, ttT 16, ttT 22, ttL 24 (i64 k), ttL 32 (i64 N), ttV 34 (i64 (modI k N)) M11, ttL 42 (i64 N), ttV 44 (i64 (modI (quoI k 13) N)) M26, ttV 50 (i64 (modI (quoI k 170) 5)) M41, ttV 56 (i64 (modI (quoI k 900) 9)) M56, ttV 60 (pt b69 0) M70, ttS 62 M82, ttV 66 (i64 (modI md 3)) M103, ttF 69, ttV 73 (i64 (modI md 3)) M118, ttT 76, ttL 80 (i64 (modI (quoI k 170) 5)), ttL 84 (i64 (modI k N)), ttV 88 (i64 (modI (IntKind.wrap .i64 ((modI (quoI k 170) 5) * (modI k N))) 3)) M133, ttS 92 M146, ttV 96 (i64 (modI k 31)) M158, ttT 99, ttV 105 (i64 (modI (quoI k 31) 3)) M173, ttS 111 M186, ttL 115 S, ttL 117 (.agg ⟨[(i64 (modI k N)), (i64 (modI (quoI k 13) N)), (i64 (modI (IntKind.wrap .i64 ((modI (quoI k 170) 5) * (modI k N))) 3)), (i64 (IntKind.wrap .i64 ((2147483647 : Int) - (modI (quoI k 31) 3))))]⟩), ttV 119 (sli b196 0 1 2) M197, .at 121 ((bif t209 then 1 else 2), .val S210, M211), ttS 125 M222] [1, 2, 6, 7, 8] = some (.normal, [some (sli bb o m c), some (i64 md), some (pt r6 0), some (pt p 0), some (i64 (IntKind.wrap .i64 ((((i : Nat) : Int)) + (1 : Int))))], M222, [qT (decide ((((i : Nat) : Int)) < (((m : Nat) : Int)))), qT (decide ((((i : Nat) : Int)) < (((m : Nat) : Int)))), qT (decide ((((i : Nat) : Int)) < (((m : Nat) : Int)))), qT (decide ((((i : Nat) : Int)) < (40 : Int))), .q (.inb (((i : Nat) : Int)) m) (ansB true), qL 3 bb (o + (((i : Nat) : Int) : Int).toNat * 1) M (i64 k), qL 3 p 0 (Mem.mk M.blks M.next M.hide []) (i64 N), qC 24 [(i64 k), (i64 N)] (Mem.mk M.blks M.next M.hide []) (i64 (modI k N)) M11, qL 3 p 0 (Mem.mk M11.blks M11.next (hides 64 [⟨3, 1, M.next, M11.next⟩, ⟨2, 1, M.next, M.next⟩] ++ M.hide) M11.log) (i64 N), qT (Nat.blt p M.next), qC 24 [(i64 (quoI k 13)), (i64 N)] (Mem.mk M11.blks M11.next M.hide M11.log) (i64 (modI (quoI k 13) N)) M26, qC 24 [(i64 (quoI k 170)), (i64 5)] (Mem.mk M26.blks M26.next M.hide M26.log) (i64 (modI (quoI k 170) 5)) M41, qC 24 [(i64 (quoI k 900)), (i64 9)] (Mem.mk M41.blks M41.next M.hide M41.log) (i64 (modI (quoI k 900) 9)) M56, .eq (aalloc Try.prog 32 (Mem.mk M56.blks M56.next (hides 0 [⟨14, 1, M41.next, M56.next⟩, ⟨11, 1, M26.next, M41.next⟩, ⟨8, 1, M11.next, M26.next⟩, ⟨3, 1, M.next, M11.next⟩, ⟨2, 1, M.next, M.next⟩] ++ M.hide) M56.log)) (1, .val (pt b69 0), M70), qS 32 b69 0 (.agg ⟨[(i64 (modI k N)), (i64 (modI (quoI k 13) N)), (i64 (modI (quoI k 170) 5)), (i64 (modI (quoI k 900) 9))]⟩) (Mem.mk M70.blks M70.next M.hide M70.log) M82, qT (apartN [p] M82.log), qC 24 [(i64 md), (i64 3)] (Mem.mk M82.blks M82.next M.hide (M82.log ++ M.log)) (i64 (modI md 3)) M103, qF ((modI md 3) == (0 : Int)), qC 24 [(i64 md), (i64 3)] M103 (i64 (modI md 3)) M118, qT ((modI md 3) == (1 : Int)), qL 3 b69 2 M118 (i64 (modI (quoI k 170) 5)), qL 3 b69 0 M118 (i64 (modI k N)), qC 24 [(i64 (IntKind.wrap .i64 ((modI (quoI k 170) 5) * (modI k N)))), (i64 3)] M118 (i64 (modI (IntKind.wrap .i64 ((modI (quoI k 170) 5) * (modI k N))) 3)) M133, qS 3 b69 2 (i64 (modI (IntKind.wrap .i64 ((modI (quoI k 170) 5) * (modI k N))) 3)) M133 M146, qC 24 [(i64 k), (i64 31)] M146 (i64 (modI k 31)) M158, qT ((modI k 31) == (0 : Int)), qC 24 [(i64 (quoI k 31)), (i64 3)] M158 (i64 (modI (quoI k 31) 3)) M173, qS 3 b69 3 (i64 (IntKind.wrap .i64 ((2147483647 : Int) - (modI (quoI k 31) 3)))) M173 M186, qL 24 p 1 M186 S, qL 32 b69 0 M186 (.agg ⟨[(i64 (modI k N)), (i64 (modI (quoI k 13) N)), (i64 (modI (IntKind.wrap .i64 ((modI (quoI k 170) 5) * (modI k N))) 3)), (i64 (IntKind.wrap .i64 ((2147483647 : Int) - (modI (quoI k 31) 3))))]⟩), .eq (abuildSlice Try.prog 24 1 [(0, (.agg ⟨[(i64 (modI k N)), (i64 (modI (quoI k 13) N)), (i64 (modI (IntKind.wrap .i64 ((modI (quoI k 170) 5) * (modI k N))) 3)), (i64 (IntKind.wrap .i64 ((2147483647 : Int) - (modI (quoI k 31) 3))))]⟩))] M186) (1, .val (sli b196 0 1 2), M197), .q (.append [24, 24] S (sli b196 0 1 2) M197) ((bif t209 then 1 else 2), .val S210, M211), qS 24 p 1 S210 M211 M222]) := by cases t209 <;> kernel_rfl
theorem r91z (p r6 bb o m c i : Nat) (N md k : Int) (S : Value) (l : List E4) {M M0 : Mem} (hM : MemOk M) (X0 : Ext M0 M) (np : M0.next ≤ p) (gp : M.get p = some ⟨[i64 N, S], 26, 2, 0, true⟩) (gr6h : M.get r6 = some ⟨[i64 0, sln], 26, 2, 0, true⟩) (dpr6 : p ≠ r6) (hN62 : (decide (0 < N) && decide (N < 2 ^ 62)) = true) (hA : AccC 32 4 M0 [p, r6] l.length ((l.map eRow).flatten) S M) (hl30 : l.length < 1073741824) (cc0 : (decide ((((i : Nat) : Int)) < (((m : Nat) : Int)))) = true) (cc1 : (decide ((((i : Nat) : Int)) < (40 : Int))) = true) (cc2 : ((modI md 3) == (0 : Int)) = false) (cc3 : ((modI md 3) == (1 : Int)) = true) (cc4 : ((modI k 31) == (0 : Int)) = true) (hld0 : aload Try.prog 3 ⟨bb, o + (((i : Nat) : Int) : Int).toNat * 1, none⟩ M0 = some (i64 k)) : ∃ T1 M' S210, Rd Try.prog [] (q11.loopAt 0) Try.f11.ntmps (fr [(1, (sli bb o m c)), (2, (i64 md)), (6, (pt r6 0)), (7, (pt p 0)), (8, (i64 (((i : Nat) : Int))))]) M .normal T1 M' ∧ [1, 2, 6, 7, 8].map T1.get = [some (sli bb o m c), some (i64 md), some (pt r6 0), some (pt p 0), some (i64 (IntKind.wrap .i64 ((((i : Nat) : Int)) + (1 : Int))))] ∧ Ext M0 M' ∧ MemOk M' ∧ M'.get p = some ⟨[(i64 N), S210], 26, 2, 0, true⟩ ∧ M'.get r6 = some ⟨[(i64 0), sln], 26, 2, 0, true⟩ ∧ AccC 32 4 M0 [p, r6] (l.length + 1) ((l.map eRow).flatten ++ [(i64 (modI k N)), (i64 (modI (quoI k 13) N)), (i64 (modI (IntKind.wrap .i64 ((modI (quoI k 170) 5) * (modI k N))) 3)), (i64 (IntKind.wrap .i64 ((2147483647 : Int) - (modI (quoI k 31) 3))))]) S210 M' := by
  obtain ⟨R1, eR2⟩ : ∃ m : Mem, m = Mem.mk M.blks M.next M.hide [] := ⟨_, rfl⟩
  have X3 : Ext (Mem.mk M0.blks M0.next M0.hide []) R1 := by rw [eR2]; exact Ext.aside (X0)
  have lg4 : R1.log = [] := by rw [eR2]
  have nxR1 : R1.next = M.next := by rw [eR2]
  have hM5 : MemOk R1 := by rw [eR2]; exact MemOk.log hM
  have ltpM : p < M.next := by have h := Mem.lt_of_get gp; exact h
  have g6 : R1.get p = some ⟨[(i64 N), S], 26, 2, 0, true⟩ := by rw [eR2]; exact gp
  have ltr6M : r6 < M.next := by have h := Mem.lt_of_get gr6h; exact h
  have g7 : R1.get r6 = some ⟨[(i64 0), sln], 26, 2, 0, true⟩ := by rw [eR2]; exact gr6h
  have A8 := hA.same (M' := R1) (fun id b h => by rw [eR2]; exact h)
  obtain ⟨w9, N10, M11, p12, l13, e14, E15, hM16, F17⟩ := call_fc (x := (k, N)) hM5 con24 (⟨⟨_, _, rfl, rfl, rfl⟩, hN62⟩)
  have nx18 := E15.next
  have A19 := A8.ext E15
  have g20 := E15.old g6
  have g21 := E15.old g7
  have ew9 : w9 = (i64 (modI k N)) := F17
  subst ew9
  have lg22 : M11.log = [] := by rw [← e14]; exact lg4
  have X23 := X3.trans E15
  obtain ⟨w24, N25, M26, p27, l28, e29, E30, hM31, F32⟩ := call_fc (x := ((quoI k 13), N)) hM16 con24 (⟨⟨_, _, rfl, rfl, rfl⟩, hN62⟩)
  have nx33 := E30.next
  have A34 := A19.ext E30
  have g35 := E30.old g20
  have g36 := E30.old g21
  have ew24 : w24 = (i64 (modI (quoI k 13) N)) := F32
  subst ew24
  have lg37 : M26.log = [] := by rw [← e29]; exact lg22
  have X38 := X23.trans E30
  obtain ⟨w39, N40, M41, p42, l43, e44, E45, hM46, F47⟩ := call_fc (x := ((quoI k 170), 5)) hM31 con24 (⟨⟨_, _, rfl, rfl, rfl⟩, rfl⟩)
  have nx48 := E45.next
  have A49 := A34.ext E45
  have g50 := E45.old g35
  have g51 := E45.old g36
  have ew39 : w39 = (i64 (modI (quoI k 170) 5)) := F47
  subst ew39
  have lg52 : M41.log = [] := by rw [← e44]; exact lg37
  have X53 := X38.trans E45
  obtain ⟨w54, N55, M56, p57, l58, e59, E60, hM61, F62⟩ := call_fc (x := ((quoI k 900), 9)) hM46 con24 (⟨⟨_, _, rfl, rfl, rfl⟩, rfl⟩)
  have nx63 := E60.next
  have A64 := A49.ext E60
  have g65 := E60.old g50
  have g66 := E60.old g51
  have ew54 : w54 = (i64 (modI (quoI k 900) 9)) := F62
  subst ew54
  have lg67 : M56.log = [] := by rw [← e59]; exact lg52
  have X68 := X53.trans E60
  obtain ⟨b69, M70, eb71, em72, g73, E74, hM75⟩ := new_t hM61 ⟨[(i64 0), (i64 0), (i64 0), (i64 0)], 32, 4, 0, true⟩
  have nb69 : M0.next ≤ b69 := by rw [← eb71]; exact X68.next
  have dpb69 : p ≠ b69 := by have := Mem.lt_of_get g65; omega
  have dr6b69 : r6 ≠ b69 := by have := Mem.lt_of_get g66; omega
  have A76 := A64.new eb71 E74
  have g77 := E74.old g65
  have g78 := E74.old g66
  have lg79 : M70.log = [] := by rw [← em72]; exact lg67
  have nx80 := E74.next
  have X81 := X68.trans E74
  obtain ⟨M82, q83, g84, kp85, X86, hM87, nx88⟩ := store_t (o := 0) (v := (.agg ⟨[(i64 (modI k N)), (i64 (modI (quoI k 13) N)), (i64 (modI (quoI k 170) 5)), (i64 (modI (quoI k 900) 9))]⟩)) (new := [(i64 (modI k N)), (i64 (modI (quoI k 13) N)), (i64 (modI (quoI k 170) 5)), (i64 (modI (quoI k 900) 9))]) X81 nb69 hM75 dS32 g73 rfl rfl (Nat.zero_le _) (Nat.le_of_ble_eq_true rfl) rfl
  replace g84 : M82.get b69 = some ⟨[(i64 (modI k N)), (i64 (modI (quoI k 13) N)), (i64 (modI (quoI k 170) 5)), (i64 (modI (quoI k 900) 9))], 32, 4, 0, true⟩ := g84
  have A89 := A76.keep (by simp) (fun id h _ => kp85 id h)
  have g90 := (kp85 _ dpb69).trans g77
  have g91 := (kp85 _ dr6b69).trans g78
  have lg92 : M82.log = [b69] := by rw [nx88, lg79]
  obtain ⟨M93, ef94⟩ : ∃ m : Mem, m = (Mem.mk M82.blks M82.next M82.hide (M82.log ++ M.log)) := ⟨_, rfl⟩
  have X95 : Ext M0 M93 := by rw [ef94]; exact Ext.join (X0) (X86)
  have hM96 : MemOk M93 := by rw [ef94]; exact hM87
  have g97 : M93.get p = some ⟨[(i64 N), S], 26, 2, 0, true⟩ := by rw [ef94]; exact g90
  have g98 : M93.get r6 = some ⟨[(i64 0), sln], 26, 2, 0, true⟩ := by rw [ef94]; exact g91
  have g99 : M93.get b69 = some ⟨[(i64 (modI k N)), (i64 (modI (quoI k 13) N)), (i64 (modI (quoI k 170) 5)), (i64 (modI (quoI k 900) 9))], 32, 4, 0, true⟩ := by rw [ef94]; exact g84
  have A100 := A89.same (M' := M93) (fun id b h => by rw [ef94]; exact h)
  obtain ⟨w101, N102, M103, p104, l105, e106, E107, hM108, F109⟩ := call_fc (x := (md, 3)) hM96 con24 (⟨⟨_, _, rfl, rfl, rfl⟩, rfl⟩)
  have nx110 := E107.next
  have A111 := A100.ext E107
  have g112 := E107.old g97
  have g113 := E107.old g98
  have g114 := E107.old g99
  have ew101 : w101 = (i64 (modI md 3)) := F109
  subst ew101
  have X115 := X95.trans E107
  obtain ⟨w116, N117, M118, p119, l120, e121, E122, hM123, F124⟩ := call_fc (x := (md, 3)) hM108 con24 (⟨⟨_, _, rfl, rfl, rfl⟩, rfl⟩)
  have nx125 := E122.next
  have A126 := A111.ext E122
  have g127 := E122.old g112
  have g128 := E122.old g113
  have g129 := E122.old g114
  have ew116 : w116 = (i64 (modI md 3)) := F124
  subst ew116
  have X130 := X115.trans E122
  obtain ⟨w131, N132, M133, p134, l135, e136, E137, hM138, F139⟩ := call_fc (x := ((IntKind.wrap .i64 ((modI (quoI k 170) 5) * (modI k N))), 3)) hM123 con24 (⟨⟨_, _, rfl, rfl, rfl⟩, rfl⟩)
  have nx140 := E137.next
  have A141 := A126.ext E137
  have g142 := E137.old g127
  have g143 := E137.old g128
  have g144 := E137.old g129
  have ew131 : w131 = (i64 (modI (IntKind.wrap .i64 ((modI (quoI k 170) 5) * (modI k N))) 3)) := F139
  subst ew131
  have X145 := X130.trans E137
  obtain ⟨M146, q147, g148, kp149, X150, hM151, nx152⟩ := store_t (o := 2) (v := (i64 (modI (IntKind.wrap .i64 ((modI (quoI k 170) 5) * (modI k N))) 3))) (new := [(i64 (modI k N)), (i64 (modI (quoI k 13) N)), (i64 (modI (IntKind.wrap .i64 ((modI (quoI k 170) 5) * (modI k N))) 3)), (i64 (modI (quoI k 900) 9))]) X145 nb69 hM138 dS3 g144 rfl rfl (Nat.zero_le _) (Nat.le_of_ble_eq_true rfl) rfl
  replace g148 : M146.get b69 = some ⟨[(i64 (modI k N)), (i64 (modI (quoI k 13) N)), (i64 (modI (IntKind.wrap .i64 ((modI (quoI k 170) 5) * (modI k N))) 3)), (i64 (modI (quoI k 900) 9))], 32, 4, 0, true⟩ := g148
  have A153 := A141.keep (by simp) (fun id h _ => kp149 id h)
  have g154 := (kp149 _ dpb69).trans g142
  have g155 := (kp149 _ dr6b69).trans g143
  obtain ⟨w156, N157, M158, p159, l160, e161, E162, hM163, F164⟩ := call_fc (x := (k, 31)) hM151 con24 (⟨⟨_, _, rfl, rfl, rfl⟩, rfl⟩)
  have nx165 := E162.next
  have A166 := A153.ext E162
  have g167 := E162.old g154
  have g168 := E162.old g155
  have g169 := E162.old g148
  have ew156 : w156 = (i64 (modI k 31)) := F164
  subst ew156
  have X170 := X150.trans E162
  obtain ⟨w171, N172, M173, p174, l175, e176, E177, hM178, F179⟩ := call_fc (x := ((quoI k 31), 3)) hM163 con24 (⟨⟨_, _, rfl, rfl, rfl⟩, rfl⟩)
  have nx180 := E177.next
  have A181 := A166.ext E177
  have g182 := E177.old g167
  have g183 := E177.old g168
  have g184 := E177.old g169
  have ew171 : w171 = (i64 (modI (quoI k 31) 3)) := F179
  subst ew171
  have X185 := X170.trans E177
  obtain ⟨M186, q187, g188, kp189, X190, hM191, nx192⟩ := store_t (o := 3) (v := (i64 (IntKind.wrap .i64 ((2147483647 : Int) - (modI (quoI k 31) 3))))) (new := [(i64 (modI k N)), (i64 (modI (quoI k 13) N)), (i64 (modI (IntKind.wrap .i64 ((modI (quoI k 170) 5) * (modI k N))) 3)), (i64 (IntKind.wrap .i64 ((2147483647 : Int) - (modI (quoI k 31) 3))))]) X185 nb69 hM178 dS3 g184 rfl rfl (Nat.zero_le _) (Nat.le_of_ble_eq_true rfl) rfl
  replace g188 : M186.get b69 = some ⟨[(i64 (modI k N)), (i64 (modI (quoI k 13) N)), (i64 (modI (IntKind.wrap .i64 ((modI (quoI k 170) 5) * (modI k N))) 3)), (i64 (IntKind.wrap .i64 ((2147483647 : Int) - (modI (quoI k 31) 3))))], 32, 4, 0, true⟩ := g188
  have A193 := A181.keep (by simp) (fun id h _ => kp189 id h)
  have g194 := (kp189 _ dpb69).trans g182
  have g195 := (kp189 _ dr6b69).trans g183
  obtain ⟨b196, M197, eb198, em199, g200, E201, hM202⟩ := new_t hM191 ⟨[(i64 (modI k N)), (i64 (modI (quoI k 13) N)), (i64 (modI (IntKind.wrap .i64 ((modI (quoI k 170) 5) * (modI k N))) 3)), (i64 (IntKind.wrap .i64 ((2147483647 : Int) - (modI (quoI k 31) 3))))], 32, 4, 0, true⟩
  have nb196 : M0.next ≤ b196 := by rw [← eb198]; exact X190.next
  have dpb196 : p ≠ b196 := by have := Mem.lt_of_get g194; omega
  have dr6b196 : r6 ≠ b196 := by have := Mem.lt_of_get g195; omega
  have db69b196 : b69 ≠ b196 := by have := Mem.lt_of_get g188; omega
  have A203 := A193.new eb198 E201
  have g204 := E201.old g194
  have g205 := E201.old g195
  have g206 := E201.old g188
  have nx207 := E201.next
  have X208 := X190.trans E201
  obtain ⟨t209, S210, M211, q212, X213, hM214, A215, kb216, ka217⟩ := accc_append (P := Try.prog) (sT := 24) (xT := 24) (y := 32) (c := 2) A203 X208 hM202 (by intro x hx; simp only [List.mem_cons, List.not_mem_nil, or_false] at hx; rcases hx with rfl | rfl | rfl | rfl <;> first | exact Mem.lt_of_get g200 | exact Mem.lt_of_get g206 | exact Mem.lt_of_get g204 | exact Mem.lt_of_get g205) (by kernel_rfl) (by kernel_rfl) (by kernel_rfl) (by kernel_rfl) (by decide) (by decide) rfl hl30 g200 (o := 0) (new := [(i64 (modI k N)), (i64 (modI (quoI k 13) N)), (i64 (modI (IntKind.wrap .i64 ((modI (quoI k 170) 5) * (modI k N))) 3)), (i64 (IntKind.wrap .i64 ((2147483647 : Int) - (modI (quoI k 31) 3))))]) rfl rfl rfl
  have g218 := kb216 _ _ g204 (by simp)
  have g219 := kb216 _ _ g205 (by simp)
  have g220 := kb216 _ _ g206 (by simp)
  have g221 := kb216 _ _ g200 (by simp)
  obtain ⟨M222, q223, g224, kp225, X226, hM227, nx228⟩ := store_t (o := 1) (v := S210) (new := [(i64 N), S210]) X213 np hM214 dS24 g218 (by rw [cells_cell A215.isCell]; rfl) (by rw [cells_cell A215.isCell]; show (isCell _ && true) = true; rw [A215.isCell]; rfl) (Nat.zero_le _) (Nat.le_of_ble_eq_true rfl) (by rw [cells_cell A215.isCell]; rfl)
  replace g224 : M222.get p = some ⟨[(i64 N), S210], 26, 2, 0, true⟩ := g224
  have A229 := A215.keep (by simp) (fun id h _ => kp225 id h)
  have g230 := (kp225 _ (Ne.symm dpr6)).trans g219
  have g231 := (kp225 _ (Ne.symm dpb69)).trans g220
  have g232 := (kp225 _ (Ne.symm dpb196)).trans g221
  have hraw := r91z_raw p r6 bb o m c i N md k S l M  M11 M26 M41 M56 b69 (Mem.mk M70.blks M70.next (hides 0 [⟨14, 1, M41.next, M56.next⟩, ⟨11, 1, M26.next, M41.next⟩, ⟨8, 1, M11.next, M26.next⟩, ⟨3, 1, M.next, M11.next⟩, ⟨2, 1, M.next, M.next⟩] ++ M.hide) M70.log) M82 M103 M118 M133 M146 M158 M173 M186 b196 M197 t209 S210 M211 M222
  dsimp only at hraw
  have rw0 : Mem.mk M.blks M.next M.hide [] = R1 := eR2.symm
  have rw1 : Mem.mk M11.blks M11.next M.hide M11.log = M11 := by rw [(show M.hide = M11.hide from ((X0).hide.trans (X23).hide.symm))]
  have rw2 : Mem.mk M11.blks M11.next (hides 64 [⟨3, 1, M.next, M11.next⟩, ⟨2, 1, M.next, M.next⟩] ++ M.hide) M11.log = hidx (hides 64 [⟨3, 1, M.next, M11.next⟩, ⟨2, 1, M.next, M.next⟩]) M11 := by rw [(show M.hide = M11.hide from ((X0).hide.trans (X23).hide.symm))]; rfl
  have rw3 : Mem.mk M26.blks M26.next M.hide M26.log = M26 := by rw [(show M.hide = M26.hide from ((X0).hide.trans (X38).hide.symm))]
  have rw4 : Mem.mk M41.blks M41.next M.hide M41.log = M41 := by rw [(show M.hide = M41.hide from ((X0).hide.trans (X53).hide.symm))]
  have rw5 : Mem.mk M56.blks M56.next M.hide M56.log = M56 := by rw [(show M.hide = M56.hide from ((X0).hide.trans (X68).hide.symm))]
  have rw6 : Mem.mk M70.blks M70.next M.hide M70.log = M70 := by rw [(show M.hide = M70.hide from ((X0).hide.trans (X81).hide.symm))]
  have rw7 : Mem.mk M82.blks M82.next M.hide M82.log = M82 := by rw [(show M.hide = M82.hide from ((X0).hide.trans (X86).hide.symm))]
  have rw8 : (Mem.mk M82.blks M82.next M.hide (M82.log ++ M.log)) = (Mem.mk M82.blks M82.next M82.hide (M82.log ++ M.log)) := by rw [(show M.hide = M82.hide from ((X0).hide.trans (X86).hide.symm))]
  have rw9 : (Mem.mk M82.blks M82.next M82.hide (M82.log ++ M.log)) = M93 := ef94.symm
  try rw [rw0] at hraw
  try rw [rw1] at hraw
  try rw [rw2] at hraw
  try rw [rw3] at hraw
  try rw [rw4] at hraw
  try rw [rw5] at hraw
  try rw [rw6] at hraw
  try rw [rw7] at hraw
  try rw [rw8] at hraw
  try rw [rw9] at hraw
  obtain ⟨T1, h1, h2⟩ := Rd.told noNumP mixedP (fun B => specsB_ok (k := []) (hS9_19 B) (fun p hp => by cases hp)) (fun _ _ => rfl) hraw (hk (bT cc0) (hk (bT cc0) (hk (bT cc0) (hk (bT cc1) (hk (q_inb (by omega) (by simp at cc0; omega)) (hk (q_ld (aload_ext X0 hld0)) (hk (lC dC3 g6 rfl) (hk (q_call rfl p12 l13 e14) (hk (lC dC3 (hidx_get.2 ⟨hides_low (by simp; omega), g20⟩) rfl) (hk (q_lt ltpM) (hk (q_call rfl p27 l28 e29) (hk (q_call rfl p42 l43 e44) (hk (q_call rfl p57 l58 e59) (hk (q_eq (by rw [← eb71, ← em72]; kernel_rfl) Nat.one_ne_zero) (hk (q_st q83) (hk (q_apart (by rw [lg92]; simp <;> omega)) (hk (q_call rfl p104 l105 e106) (hk (bF cc2) (hk (q_call rfl p119 l120 e121) (hk (bT cc3) (hk (lC dC3 g129 rfl) (hk (lC dC3 g129 rfl) (hk (q_call rfl p134 l135 e136) (hk (q_st q147) (hk (q_call rfl p159 l160 e161) (hk (bT cc4) (hk (q_call rfl p174 l175 e176) (hk (q_st q187) (hk (lC dC24 g194 rfl) (hk (lA ⟨dA32, dS32⟩ g188 rfl) (hk (q_eq (by rw [← eb198, ← em199]; kernel_rfl) Nat.one_ne_zero) (hk (q_app q212 (by cases t209 <;> simp)) (hk (q_st q223) hn)))))))))))))))))))))))))))))))))
  exact ⟨T1, M222, S210, h1, h2, X226, hM227, g224, g230, A229.less (by intro x hx; simp only [List.mem_cons, List.not_mem_nil, or_false] at hx; rcases hx with rfl | rfl <;> simp)⟩
theorem r91y_raw (p r6 bb o m c i : Nat) (N md k : Int) (S : Value) (l : List E4) (M : Mem) (M11 : Mem) (M26 : Mem) (M41 : Mem) (M56 : Mem) (b69 : Nat) (M70 : Mem) (M82 : Mem) (M103 : Mem) (M118 : Mem) (M133 : Mem) (M146 : Mem) (M158 : Mem) (b171 : Nat) (M172 : Mem) (t184 : Bool) (S185 : Value) (M186 : Mem) (M197 : Mem) : oR Try.prog [] 100 Try.f11 (q11.loopAt 0) [(1, (sli bb o m c)), (2, (i64 md)), (6, (pt r6 0)), (7, (pt p 0)), (8, (i64 (((i : Nat) : Int))))] M [ttT 10, ttT 12, ttT 15, ttT 16, ttT 22, ttL 24 (i64 k), ttL 32 (i64 N), ttV 34 (i64 (modI k N)) M11, ttL 42 (i64 N), ttV 44 (i64 (modI (quoI k 13) N)) M26, ttV 50 (i64 (modI (quoI k 170) 5)) M41, ttV 56 (i64 (modI (quoI k 900) 9)) M56, ttV 60 (pt b69 0) M70, ttS 62 M82, ttV 66 (i64 (modI md 3)) M103, ttF 69, ttV 73 (i64 (modI md 3)) M118, ttT 76, ttL 80 (i64 (modI (quoI k 170) 5)), ttL 84 (i64 (modI k N)), ttV 88 (i64 (modI (IntKind.wrap .i64 ((modI (quoI k 170) 5) * (modI k N))) 3)) M133, ttS 92 M146, ttV 96 (i64 (modI k 31)) M158, ttF 99, ttL 103 S, ttL 105 (.agg ⟨[(i64 (modI k N)), (i64 (modI (quoI k 13) N)), (i64 (modI (IntKind.wrap .i64 ((modI (quoI k 170) 5) * (modI k N))) 3)), (i64 (modI (quoI k 900) 9))]⟩), ttV 107 (sli b171 0 1 2) M172, .at 109 ((bif t184 then 1 else 2), .val S185, M186), ttS 113 M197] [1, 2, 6, 7, 8] = some (.normal, [some (sli bb o m c), some (i64 md), some (pt r6 0), some (pt p 0), some (i64 (IntKind.wrap .i64 ((((i : Nat) : Int)) + (1 : Int))))], M197, [qT (decide ((((i : Nat) : Int)) < (((m : Nat) : Int)))), qT (decide ((((i : Nat) : Int)) < (((m : Nat) : Int)))), qT (decide ((((i : Nat) : Int)) < (((m : Nat) : Int)))), qT (decide ((((i : Nat) : Int)) < (40 : Int))), .q (.inb (((i : Nat) : Int)) m) (ansB true), qL 3 bb (o + (((i : Nat) : Int) : Int).toNat * 1) M (i64 k), qL 3 p 0 (Mem.mk M.blks M.next M.hide []) (i64 N), qC 24 [(i64 k), (i64 N)] (Mem.mk M.blks M.next M.hide []) (i64 (modI k N)) M11, qL 3 p 0 (Mem.mk M11.blks M11.next (hides 64 [⟨3, 1, M.next, M11.next⟩, ⟨2, 1, M.next, M.next⟩] ++ M.hide) M11.log) (i64 N), qT (Nat.blt p M.next), qC 24 [(i64 (quoI k 13)), (i64 N)] (Mem.mk M11.blks M11.next M.hide M11.log) (i64 (modI (quoI k 13) N)) M26, qC 24 [(i64 (quoI k 170)), (i64 5)] (Mem.mk M26.blks M26.next M.hide M26.log) (i64 (modI (quoI k 170) 5)) M41, qC 24 [(i64 (quoI k 900)), (i64 9)] (Mem.mk M41.blks M41.next M.hide M41.log) (i64 (modI (quoI k 900) 9)) M56, .eq (aalloc Try.prog 32 (Mem.mk M56.blks M56.next (hides 0 [⟨14, 1, M41.next, M56.next⟩, ⟨11, 1, M26.next, M41.next⟩, ⟨8, 1, M11.next, M26.next⟩, ⟨3, 1, M.next, M11.next⟩, ⟨2, 1, M.next, M.next⟩] ++ M.hide) M56.log)) (1, .val (pt b69 0), M70), qS 32 b69 0 (.agg ⟨[(i64 (modI k N)), (i64 (modI (quoI k 13) N)), (i64 (modI (quoI k 170) 5)), (i64 (modI (quoI k 900) 9))]⟩) (Mem.mk M70.blks M70.next M.hide M70.log) M82, qT (apartN [p] M82.log), qC 24 [(i64 md), (i64 3)] (Mem.mk M82.blks M82.next M.hide (M82.log ++ M.log)) (i64 (modI md 3)) M103, qF ((modI md 3) == (0 : Int)), qC 24 [(i64 md), (i64 3)] M103 (i64 (modI md 3)) M118, qT ((modI md 3) == (1 : Int)), qL 3 b69 2 M118 (i64 (modI (quoI k 170) 5)), qL 3 b69 0 M118 (i64 (modI k N)), qC 24 [(i64 (IntKind.wrap .i64 ((modI (quoI k 170) 5) * (modI k N)))), (i64 3)] M118 (i64 (modI (IntKind.wrap .i64 ((modI (quoI k 170) 5) * (modI k N))) 3)) M133, qS 3 b69 2 (i64 (modI (IntKind.wrap .i64 ((modI (quoI k 170) 5) * (modI k N))) 3)) M133 M146, qC 24 [(i64 k), (i64 31)] M146 (i64 (modI k 31)) M158, qF ((modI k 31) == (0 : Int)), qL 24 p 1 M158 S, qL 32 b69 0 M158 (.agg ⟨[(i64 (modI k N)), (i64 (modI (quoI k 13) N)), (i64 (modI (IntKind.wrap .i64 ((modI (quoI k 170) 5) * (modI k N))) 3)), (i64 (modI (quoI k 900) 9))]⟩), .eq (abuildSlice Try.prog 24 1 [(0, (.agg ⟨[(i64 (modI k N)), (i64 (modI (quoI k 13) N)), (i64 (modI (IntKind.wrap .i64 ((modI (quoI k 170) 5) * (modI k N))) 3)), (i64 (modI (quoI k 900) 9))]⟩))] M158) (1, .val (sli b171 0 1 2), M172), .q (.append [24, 24] S (sli b171 0 1 2) M172) ((bif t184 then 1 else 2), .val S185, M186), qS 24 p 1 S185 M186 M197]) := by cases t184 <;> kernel_rfl
theorem r91y (p r6 bb o m c i : Nat) (N md k : Int) (S : Value) (l : List E4) {M M0 : Mem} (hM : MemOk M) (X0 : Ext M0 M) (np : M0.next ≤ p) (gp : M.get p = some ⟨[i64 N, S], 26, 2, 0, true⟩) (gr6h : M.get r6 = some ⟨[i64 0, sln], 26, 2, 0, true⟩) (dpr6 : p ≠ r6) (hN62 : (decide (0 < N) && decide (N < 2 ^ 62)) = true) (hA : AccC 32 4 M0 [p, r6] l.length ((l.map eRow).flatten) S M) (hl30 : l.length < 1073741824) (cc0 : (decide ((((i : Nat) : Int)) < (((m : Nat) : Int)))) = true) (cc1 : (decide ((((i : Nat) : Int)) < (40 : Int))) = true) (cc2 : ((modI md 3) == (0 : Int)) = false) (cc3 : ((modI md 3) == (1 : Int)) = true) (cc4 : ((modI k 31) == (0 : Int)) = false) (hld0 : aload Try.prog 3 ⟨bb, o + (((i : Nat) : Int) : Int).toNat * 1, none⟩ M0 = some (i64 k)) : ∃ T1 M' S185, Rd Try.prog [] (q11.loopAt 0) Try.f11.ntmps (fr [(1, (sli bb o m c)), (2, (i64 md)), (6, (pt r6 0)), (7, (pt p 0)), (8, (i64 (((i : Nat) : Int))))]) M .normal T1 M' ∧ [1, 2, 6, 7, 8].map T1.get = [some (sli bb o m c), some (i64 md), some (pt r6 0), some (pt p 0), some (i64 (IntKind.wrap .i64 ((((i : Nat) : Int)) + (1 : Int))))] ∧ Ext M0 M' ∧ MemOk M' ∧ M'.get p = some ⟨[(i64 N), S185], 26, 2, 0, true⟩ ∧ M'.get r6 = some ⟨[(i64 0), sln], 26, 2, 0, true⟩ ∧ AccC 32 4 M0 [p, r6] (l.length + 1) ((l.map eRow).flatten ++ [(i64 (modI k N)), (i64 (modI (quoI k 13) N)), (i64 (modI (IntKind.wrap .i64 ((modI (quoI k 170) 5) * (modI k N))) 3)), (i64 (modI (quoI k 900) 9))]) S185 M' := by
  obtain ⟨R1, eR2⟩ : ∃ m : Mem, m = Mem.mk M.blks M.next M.hide [] := ⟨_, rfl⟩
  have X3 : Ext (Mem.mk M0.blks M0.next M0.hide []) R1 := by rw [eR2]; exact Ext.aside (X0)
  have lg4 : R1.log = [] := by rw [eR2]
  have nxR1 : R1.next = M.next := by rw [eR2]
  have hM5 : MemOk R1 := by rw [eR2]; exact MemOk.log hM
  have ltpM : p < M.next := by have h := Mem.lt_of_get gp; exact h
  have g6 : R1.get p = some ⟨[(i64 N), S], 26, 2, 0, true⟩ := by rw [eR2]; exact gp
  have ltr6M : r6 < M.next := by have h := Mem.lt_of_get gr6h; exact h
  have g7 : R1.get r6 = some ⟨[(i64 0), sln], 26, 2, 0, true⟩ := by rw [eR2]; exact gr6h
  have A8 := hA.same (M' := R1) (fun id b h => by rw [eR2]; exact h)
  obtain ⟨w9, N10, M11, p12, l13, e14, E15, hM16, F17⟩ := call_fc (x := (k, N)) hM5 con24 (⟨⟨_, _, rfl, rfl, rfl⟩, hN62⟩)
  have nx18 := E15.next
  have A19 := A8.ext E15
  have g20 := E15.old g6
  have g21 := E15.old g7
  have ew9 : w9 = (i64 (modI k N)) := F17
  subst ew9
  have lg22 : M11.log = [] := by rw [← e14]; exact lg4
  have X23 := X3.trans E15
  obtain ⟨w24, N25, M26, p27, l28, e29, E30, hM31, F32⟩ := call_fc (x := ((quoI k 13), N)) hM16 con24 (⟨⟨_, _, rfl, rfl, rfl⟩, hN62⟩)
  have nx33 := E30.next
  have A34 := A19.ext E30
  have g35 := E30.old g20
  have g36 := E30.old g21
  have ew24 : w24 = (i64 (modI (quoI k 13) N)) := F32
  subst ew24
  have lg37 : M26.log = [] := by rw [← e29]; exact lg22
  have X38 := X23.trans E30
  obtain ⟨w39, N40, M41, p42, l43, e44, E45, hM46, F47⟩ := call_fc (x := ((quoI k 170), 5)) hM31 con24 (⟨⟨_, _, rfl, rfl, rfl⟩, rfl⟩)
  have nx48 := E45.next
  have A49 := A34.ext E45
  have g50 := E45.old g35
  have g51 := E45.old g36
  have ew39 : w39 = (i64 (modI (quoI k 170) 5)) := F47
  subst ew39
  have lg52 : M41.log = [] := by rw [← e44]; exact lg37
  have X53 := X38.trans E45
  obtain ⟨w54, N55, M56, p57, l58, e59, E60, hM61, F62⟩ := call_fc (x := ((quoI k 900), 9)) hM46 con24 (⟨⟨_, _, rfl, rfl, rfl⟩, rfl⟩)
  have nx63 := E60.next
  have A64 := A49.ext E60
  have g65 := E60.old g50
  have g66 := E60.old g51
  have ew54 : w54 = (i64 (modI (quoI k 900) 9)) := F62
  subst ew54
  have lg67 : M56.log = [] := by rw [← e59]; exact lg52
  have X68 := X53.trans E60
  obtain ⟨b69, M70, eb71, em72, g73, E74, hM75⟩ := new_t hM61 ⟨[(i64 0), (i64 0), (i64 0), (i64 0)], 32, 4, 0, true⟩
  have nb69 : M0.next ≤ b69 := by rw [← eb71]; exact X68.next
  have dpb69 : p ≠ b69 := by have := Mem.lt_of_get g65; omega
  have dr6b69 : r6 ≠ b69 := by have := Mem.lt_of_get g66; omega
  have A76 := A64.new eb71 E74
  have g77 := E74.old g65
  have g78 := E74.old g66
  have lg79 : M70.log = [] := by rw [← em72]; exact lg67
  have nx80 := E74.next
  have X81 := X68.trans E74
  obtain ⟨M82, q83, g84, kp85, X86, hM87, nx88⟩ := store_t (o := 0) (v := (.agg ⟨[(i64 (modI k N)), (i64 (modI (quoI k 13) N)), (i64 (modI (quoI k 170) 5)), (i64 (modI (quoI k 900) 9))]⟩)) (new := [(i64 (modI k N)), (i64 (modI (quoI k 13) N)), (i64 (modI (quoI k 170) 5)), (i64 (modI (quoI k 900) 9))]) X81 nb69 hM75 dS32 g73 rfl rfl (Nat.zero_le _) (Nat.le_of_ble_eq_true rfl) rfl
  replace g84 : M82.get b69 = some ⟨[(i64 (modI k N)), (i64 (modI (quoI k 13) N)), (i64 (modI (quoI k 170) 5)), (i64 (modI (quoI k 900) 9))], 32, 4, 0, true⟩ := g84
  have A89 := A76.keep (by simp) (fun id h _ => kp85 id h)
  have g90 := (kp85 _ dpb69).trans g77
  have g91 := (kp85 _ dr6b69).trans g78
  have lg92 : M82.log = [b69] := by rw [nx88, lg79]
  obtain ⟨M93, ef94⟩ : ∃ m : Mem, m = (Mem.mk M82.blks M82.next M82.hide (M82.log ++ M.log)) := ⟨_, rfl⟩
  have X95 : Ext M0 M93 := by rw [ef94]; exact Ext.join (X0) (X86)
  have hM96 : MemOk M93 := by rw [ef94]; exact hM87
  have g97 : M93.get p = some ⟨[(i64 N), S], 26, 2, 0, true⟩ := by rw [ef94]; exact g90
  have g98 : M93.get r6 = some ⟨[(i64 0), sln], 26, 2, 0, true⟩ := by rw [ef94]; exact g91
  have g99 : M93.get b69 = some ⟨[(i64 (modI k N)), (i64 (modI (quoI k 13) N)), (i64 (modI (quoI k 170) 5)), (i64 (modI (quoI k 900) 9))], 32, 4, 0, true⟩ := by rw [ef94]; exact g84
  have A100 := A89.same (M' := M93) (fun id b h => by rw [ef94]; exact h)
  obtain ⟨w101, N102, M103, p104, l105, e106, E107, hM108, F109⟩ := call_fc (x := (md, 3)) hM96 con24 (⟨⟨_, _, rfl, rfl, rfl⟩, rfl⟩)
  have nx110 := E107.next
  have A111 := A100.ext E107
  have g112 := E107.old g97
  have g113 := E107.old g98
  have g114 := E107.old g99
  have ew101 : w101 = (i64 (modI md 3)) := F109
  subst ew101
  have X115 := X95.trans E107
  obtain ⟨w116, N117, M118, p119, l120, e121, E122, hM123, F124⟩ := call_fc (x := (md, 3)) hM108 con24 (⟨⟨_, _, rfl, rfl, rfl⟩, rfl⟩)
  have nx125 := E122.next
  have A126 := A111.ext E122
  have g127 := E122.old g112
  have g128 := E122.old g113
  have g129 := E122.old g114
  have ew116 : w116 = (i64 (modI md 3)) := F124
  subst ew116
  have X130 := X115.trans E122
  obtain ⟨w131, N132, M133, p134, l135, e136, E137, hM138, F139⟩ := call_fc (x := ((IntKind.wrap .i64 ((modI (quoI k 170) 5) * (modI k N))), 3)) hM123 con24 (⟨⟨_, _, rfl, rfl, rfl⟩, rfl⟩)
  have nx140 := E137.next
  have A141 := A126.ext E137
  have g142 := E137.old g127
  have g143 := E137.old g128
  have g144 := E137.old g129
  have ew131 : w131 = (i64 (modI (IntKind.wrap .i64 ((modI (quoI k 170) 5) * (modI k N))) 3)) := F139
  subst ew131
  have X145 := X130.trans E137
  obtain ⟨M146, q147, g148, kp149, X150, hM151, nx152⟩ := store_t (o := 2) (v := (i64 (modI (IntKind.wrap .i64 ((modI (quoI k 170) 5) * (modI k N))) 3))) (new := [(i64 (modI k N)), (i64 (modI (quoI k 13) N)), (i64 (modI (IntKind.wrap .i64 ((modI (quoI k 170) 5) * (modI k N))) 3)), (i64 (modI (quoI k 900) 9))]) X145 nb69 hM138 dS3 g144 rfl rfl (Nat.zero_le _) (Nat.le_of_ble_eq_true rfl) rfl
  replace g148 : M146.get b69 = some ⟨[(i64 (modI k N)), (i64 (modI (quoI k 13) N)), (i64 (modI (IntKind.wrap .i64 ((modI (quoI k 170) 5) * (modI k N))) 3)), (i64 (modI (quoI k 900) 9))], 32, 4, 0, true⟩ := g148
  have A153 := A141.keep (by simp) (fun id h _ => kp149 id h)
  have g154 := (kp149 _ dpb69).trans g142
  have g155 := (kp149 _ dr6b69).trans g143
  obtain ⟨w156, N157, M158, p159, l160, e161, E162, hM163, F164⟩ := call_fc (x := (k, 31)) hM151 con24 (⟨⟨_, _, rfl, rfl, rfl⟩, rfl⟩)
  have nx165 := E162.next
  have A166 := A153.ext E162
  have g167 := E162.old g154
  have g168 := E162.old g155
  have g169 := E162.old g148
  have ew156 : w156 = (i64 (modI k 31)) := F164
  subst ew156
  have X170 := X150.trans E162
  obtain ⟨b171, M172, eb173, em174, g175, E176, hM177⟩ := new_t hM163 ⟨[(i64 (modI k N)), (i64 (modI (quoI k 13) N)), (i64 (modI (IntKind.wrap .i64 ((modI (quoI k 170) 5) * (modI k N))) 3)), (i64 (modI (quoI k 900) 9))], 32, 4, 0, true⟩
  have nb171 : M0.next ≤ b171 := by rw [← eb173]; exact X170.next
  have dpb171 : p ≠ b171 := by have := Mem.lt_of_get g167; omega
  have dr6b171 : r6 ≠ b171 := by have := Mem.lt_of_get g168; omega
  have db69b171 : b69 ≠ b171 := by have := Mem.lt_of_get g169; omega
  have A178 := A166.new eb173 E176
  have g179 := E176.old g167
  have g180 := E176.old g168
  have g181 := E176.old g169
  have nx182 := E176.next
  have X183 := X170.trans E176
  obtain ⟨t184, S185, M186, q187, X188, hM189, A190, kb191, ka192⟩ := accc_append (P := Try.prog) (sT := 24) (xT := 24) (y := 32) (c := 2) A178 X183 hM177 (by intro x hx; simp only [List.mem_cons, List.not_mem_nil, or_false] at hx; rcases hx with rfl | rfl | rfl | rfl <;> first | exact Mem.lt_of_get g175 | exact Mem.lt_of_get g181 | exact Mem.lt_of_get g179 | exact Mem.lt_of_get g180) (by kernel_rfl) (by kernel_rfl) (by kernel_rfl) (by kernel_rfl) (by decide) (by decide) rfl hl30 g175 (o := 0) (new := [(i64 (modI k N)), (i64 (modI (quoI k 13) N)), (i64 (modI (IntKind.wrap .i64 ((modI (quoI k 170) 5) * (modI k N))) 3)), (i64 (modI (quoI k 900) 9))]) rfl rfl rfl
  have g193 := kb191 _ _ g179 (by simp)
  have g194 := kb191 _ _ g180 (by simp)
  have g195 := kb191 _ _ g181 (by simp)
  have g196 := kb191 _ _ g175 (by simp)
  obtain ⟨M197, q198, g199, kp200, X201, hM202, nx203⟩ := store_t (o := 1) (v := S185) (new := [(i64 N), S185]) X188 np hM189 dS24 g193 (by rw [cells_cell A190.isCell]; rfl) (by rw [cells_cell A190.isCell]; show (isCell _ && true) = true; rw [A190.isCell]; rfl) (Nat.zero_le _) (Nat.le_of_ble_eq_true rfl) (by rw [cells_cell A190.isCell]; rfl)
  replace g199 : M197.get p = some ⟨[(i64 N), S185], 26, 2, 0, true⟩ := g199
  have A204 := A190.keep (by simp) (fun id h _ => kp200 id h)
  have g205 := (kp200 _ (Ne.symm dpr6)).trans g194
  have g206 := (kp200 _ (Ne.symm dpb69)).trans g195
  have g207 := (kp200 _ (Ne.symm dpb171)).trans g196
  have hraw := r91y_raw p r6 bb o m c i N md k S l M  M11 M26 M41 M56 b69 (Mem.mk M70.blks M70.next (hides 0 [⟨14, 1, M41.next, M56.next⟩, ⟨11, 1, M26.next, M41.next⟩, ⟨8, 1, M11.next, M26.next⟩, ⟨3, 1, M.next, M11.next⟩, ⟨2, 1, M.next, M.next⟩] ++ M.hide) M70.log) M82 M103 M118 M133 M146 M158 b171 M172 t184 S185 M186 M197
  dsimp only at hraw
  have rw0 : Mem.mk M.blks M.next M.hide [] = R1 := eR2.symm
  have rw1 : Mem.mk M11.blks M11.next M.hide M11.log = M11 := by rw [(show M.hide = M11.hide from ((X0).hide.trans (X23).hide.symm))]
  have rw2 : Mem.mk M11.blks M11.next (hides 64 [⟨3, 1, M.next, M11.next⟩, ⟨2, 1, M.next, M.next⟩] ++ M.hide) M11.log = hidx (hides 64 [⟨3, 1, M.next, M11.next⟩, ⟨2, 1, M.next, M.next⟩]) M11 := by rw [(show M.hide = M11.hide from ((X0).hide.trans (X23).hide.symm))]; rfl
  have rw3 : Mem.mk M26.blks M26.next M.hide M26.log = M26 := by rw [(show M.hide = M26.hide from ((X0).hide.trans (X38).hide.symm))]
  have rw4 : Mem.mk M41.blks M41.next M.hide M41.log = M41 := by rw [(show M.hide = M41.hide from ((X0).hide.trans (X53).hide.symm))]
  have rw5 : Mem.mk M56.blks M56.next M.hide M56.log = M56 := by rw [(show M.hide = M56.hide from ((X0).hide.trans (X68).hide.symm))]
  have rw6 : Mem.mk M70.blks M70.next M.hide M70.log = M70 := by rw [(show M.hide = M70.hide from ((X0).hide.trans (X81).hide.symm))]
  have rw7 : Mem.mk M82.blks M82.next M.hide M82.log = M82 := by rw [(show M.hide = M82.hide from ((X0).hide.trans (X86).hide.symm))]
  have rw8 : (Mem.mk M82.blks M82.next M.hide (M82.log ++ M.log)) = (Mem.mk M82.blks M82.next M82.hide (M82.log ++ M.log)) := by rw [(show M.hide = M82.hide from ((X0).hide.trans (X86).hide.symm))]
  have rw9 : (Mem.mk M82.blks M82.next M82.hide (M82.log ++ M.log)) = M93 := ef94.symm
  try rw [rw0] at hraw
  try rw [rw1] at hraw
  try rw [rw2] at hraw
  try rw [rw3] at hraw
  try rw [rw4] at hraw
  try rw [rw5] at hraw
  try rw [rw6] at hraw
  try rw [rw7] at hraw
  try rw [rw8] at hraw
  try rw [rw9] at hraw
  obtain ⟨T1, h1, h2⟩ := Rd.told noNumP mixedP (fun B => specsB_ok (k := []) (hS9_19 B) (fun p hp => by cases hp)) (fun _ _ => rfl) hraw (hk (bT cc0) (hk (bT cc0) (hk (bT cc0) (hk (bT cc1) (hk (q_inb (by omega) (by simp at cc0; omega)) (hk (q_ld (aload_ext X0 hld0)) (hk (lC dC3 g6 rfl) (hk (q_call rfl p12 l13 e14) (hk (lC dC3 (hidx_get.2 ⟨hides_low (by simp; omega), g20⟩) rfl) (hk (q_lt ltpM) (hk (q_call rfl p27 l28 e29) (hk (q_call rfl p42 l43 e44) (hk (q_call rfl p57 l58 e59) (hk (q_eq (by rw [← eb71, ← em72]; kernel_rfl) Nat.one_ne_zero) (hk (q_st q83) (hk (q_apart (by rw [lg92]; simp <;> omega)) (hk (q_call rfl p104 l105 e106) (hk (bF cc2) (hk (q_call rfl p119 l120 e121) (hk (bT cc3) (hk (lC dC3 g129 rfl) (hk (lC dC3 g129 rfl) (hk (q_call rfl p134 l135 e136) (hk (q_st q147) (hk (q_call rfl p159 l160 e161) (hk (bF cc4) (hk (lC dC24 g167 rfl) (hk (lA ⟨dA32, dS32⟩ g169 rfl) (hk (q_eq (by rw [← eb173, ← em174]; kernel_rfl) Nat.one_ne_zero) (hk (q_app q187 (by cases t184 <;> simp)) (hk (q_st q198) hn)))))))))))))))))))))))))))))))
  exact ⟨T1, M197, S185, h1, h2, X201, hM202, g199, g205, A204.less (by intro x hx; simp only [List.mem_cons, List.not_mem_nil, or_false] at hx; rcases hx with rfl | rfl <;> simp)⟩
theorem r92z_raw (p r6 bb o m c i : Nat) (N md k : Int) (S : Value) (l : List E4) (M : Mem) (M11 : Mem) (M26 : Mem) (M41 : Mem) (M56 : Mem) (b69 : Nat) (M70 : Mem) (M82 : Mem) (M103 : Mem) (M118 : Mem) (M133 : Mem) (M148 : Mem) (M161 : Mem) (b171 : Nat) (M172 : Mem) (t184 : Bool) (S185 : Value) (M186 : Mem) (M197 : Mem) : oR Try.prog [] 100 Try.f11 (q11.loopAt 0) [(1, (sli bb o m c)), (2, (i64 md)), (6, (pt r6 0)), (7, (pt p 0)), (8, (i64 (((i : Nat) : Int))))] M [ttT 10, ttT 12, ttT 15, ttT 16, ttT 22, ttL 24 (i64 k), ttL 32 (i64 N), ttV 34 (i64 (modI k N)) M11, ttL 42 (i64 N), ttV 44 (i64 (modI (quoI k 13) N)) M26, ttV 50 (i64 (modI (quoI k 170) 5)) M41, ttV 56 (i64 (modI (quoI k 900) 9)) M56, ttV 60 (pt b69 0) M70, ttS 62 M82, ttV 66 (i64 (modI md 3)) M103, ttF 69, ttV 73 (i64 (modI md 3)) M118, ttF 76, ttV 80 (i64 (modI k 31)) M133, ttT 83, ttV 89 (i64 (modI (quoI k 31) 3)) M148, ttS 95 M161, ttL 99 S, ttL 101 (.agg ⟨[(i64 (modI k N)), (i64 (modI (quoI k 13) N)), (i64 (modI (quoI k 170) 5)), (i64 (IntKind.wrap .i64 ((2147483647 : Int) - (modI (quoI k 31) 3))))]⟩), ttV 103 (sli b171 0 1 2) M172, .at 105 ((bif t184 then 1 else 2), .val S185, M186), ttS 109 M197] [1, 2, 6, 7, 8] = some (.normal, [some (sli bb o m c), some (i64 md), some (pt r6 0), some (pt p 0), some (i64 (IntKind.wrap .i64 ((((i : Nat) : Int)) + (1 : Int))))], M197, [qT (decide ((((i : Nat) : Int)) < (((m : Nat) : Int)))), qT (decide ((((i : Nat) : Int)) < (((m : Nat) : Int)))), qT (decide ((((i : Nat) : Int)) < (((m : Nat) : Int)))), qT (decide ((((i : Nat) : Int)) < (40 : Int))), .q (.inb (((i : Nat) : Int)) m) (ansB true), qL 3 bb (o + (((i : Nat) : Int) : Int).toNat * 1) M (i64 k), qL 3 p 0 (Mem.mk M.blks M.next M.hide []) (i64 N), qC 24 [(i64 k), (i64 N)] (Mem.mk M.blks M.next M.hide []) (i64 (modI k N)) M11, qL 3 p 0 (Mem.mk M11.blks M11.next (hides 64 [⟨3, 1, M.next, M11.next⟩, ⟨2, 1, M.next, M.next⟩] ++ M.hide) M11.log) (i64 N), qT (Nat.blt p M.next), qC 24 [(i64 (quoI k 13)), (i64 N)] (Mem.mk M11.blks M11.next M.hide M11.log) (i64 (modI (quoI k 13) N)) M26, qC 24 [(i64 (quoI k 170)), (i64 5)] (Mem.mk M26.blks M26.next M.hide M26.log) (i64 (modI (quoI k 170) 5)) M41, qC 24 [(i64 (quoI k 900)), (i64 9)] (Mem.mk M41.blks M41.next M.hide M41.log) (i64 (modI (quoI k 900) 9)) M56, .eq (aalloc Try.prog 32 (Mem.mk M56.blks M56.next (hides 0 [⟨14, 1, M41.next, M56.next⟩, ⟨11, 1, M26.next, M41.next⟩, ⟨8, 1, M11.next, M26.next⟩, ⟨3, 1, M.next, M11.next⟩, ⟨2, 1, M.next, M.next⟩] ++ M.hide) M56.log)) (1, .val (pt b69 0), M70), qS 32 b69 0 (.agg ⟨[(i64 (modI k N)), (i64 (modI (quoI k 13) N)), (i64 (modI (quoI k 170) 5)), (i64 (modI (quoI k 900) 9))]⟩) (Mem.mk M70.blks M70.next M.hide M70.log) M82, qT (apartN [p] M82.log), qC 24 [(i64 md), (i64 3)] (Mem.mk M82.blks M82.next M.hide (M82.log ++ M.log)) (i64 (modI md 3)) M103, qF ((modI md 3) == (0 : Int)), qC 24 [(i64 md), (i64 3)] M103 (i64 (modI md 3)) M118, qF ((modI md 3) == (1 : Int)), qC 24 [(i64 k), (i64 31)] M118 (i64 (modI k 31)) M133, qT ((modI k 31) == (0 : Int)), qC 24 [(i64 (quoI k 31)), (i64 3)] M133 (i64 (modI (quoI k 31) 3)) M148, qS 3 b69 3 (i64 (IntKind.wrap .i64 ((2147483647 : Int) - (modI (quoI k 31) 3)))) M148 M161, qL 24 p 1 M161 S, qL 32 b69 0 M161 (.agg ⟨[(i64 (modI k N)), (i64 (modI (quoI k 13) N)), (i64 (modI (quoI k 170) 5)), (i64 (IntKind.wrap .i64 ((2147483647 : Int) - (modI (quoI k 31) 3))))]⟩), .eq (abuildSlice Try.prog 24 1 [(0, (.agg ⟨[(i64 (modI k N)), (i64 (modI (quoI k 13) N)), (i64 (modI (quoI k 170) 5)), (i64 (IntKind.wrap .i64 ((2147483647 : Int) - (modI (quoI k 31) 3))))]⟩))] M161) (1, .val (sli b171 0 1 2), M172), .q (.append [24, 24] S (sli b171 0 1 2) M172) ((bif t184 then 1 else 2), .val S185, M186), qS 24 p 1 S185 M186 M197]) := by cases t184 <;> kernel_rfl
theorem r92z (p r6 bb o m c i : Nat) (N md k : Int) (S : Value) (l : List E4) {M M0 : Mem} (hM : MemOk M) (X0 : Ext M0 M) (np : M0.next ≤ p) (gp : M.get p = some ⟨[i64 N, S], 26, 2, 0, true⟩) (gr6h : M.get r6 = some ⟨[i64 0, sln], 26, 2, 0, true⟩) (dpr6 : p ≠ r6) (hN62 : (decide (0 < N) && decide (N < 2 ^ 62)) = true) (hA : AccC 32 4 M0 [p, r6] l.length ((l.map eRow).flatten) S M) (hl30 : l.length < 1073741824) (cc0 : (decide ((((i : Nat) : Int)) < (((m : Nat) : Int)))) = true) (cc1 : (decide ((((i : Nat) : Int)) < (40 : Int))) = true) (cc2 : ((modI md 3) == (0 : Int)) = false) (cc3 : ((modI md 3) == (1 : Int)) = false) (cc4 : ((modI k 31) == (0 : Int)) = true) (hld0 : aload Try.prog 3 ⟨bb, o + (((i : Nat) : Int) : Int).toNat * 1, none⟩ M0 = some (i64 k)) : ∃ T1 M' S185, Rd Try.prog [] (q11.loopAt 0) Try.f11.ntmps (fr [(1, (sli bb o m c)), (2, (i64 md)), (6, (pt r6 0)), (7, (pt p 0)), (8, (i64 (((i : Nat) : Int))))]) M .normal T1 M' ∧ [1, 2, 6, 7, 8].map T1.get = [some (sli bb o m c), some (i64 md), some (pt r6 0), some (pt p 0), some (i64 (IntKind.wrap .i64 ((((i : Nat) : Int)) + (1 : Int))))] ∧ Ext M0 M' ∧ MemOk M' ∧ M'.get p = some ⟨[(i64 N), S185], 26, 2, 0, true⟩ ∧ M'.get r6 = some ⟨[(i64 0), sln], 26, 2, 0, true⟩ ∧ AccC 32 4 M0 [p, r6] (l.length + 1) ((l.map eRow).flatten ++ [(i64 (modI k N)), (i64 (modI (quoI k 13) N)), (i64 (modI (quoI k 170) 5)), (i64 (IntKind.wrap .i64 ((2147483647 : Int) - (modI (quoI k 31) 3))))]) S185 M' := by
  obtain ⟨R1, eR2⟩ : ∃ m : Mem, m = Mem.mk M.blks M.next M.hide [] := ⟨_, rfl⟩
  have X3 : Ext (Mem.mk M0.blks M0.next M0.hide []) R1 := by rw [eR2]; exact Ext.aside (X0)
  have lg4 : R1.log = [] := by rw [eR2]
  have nxR1 : R1.next = M.next := by rw [eR2]
  have hM5 : MemOk R1 := by rw [eR2]; exact MemOk.log hM
  have ltpM : p < M.next := by have h := Mem.lt_of_get gp; exact h
  have g6 : R1.get p = some ⟨[(i64 N), S], 26, 2, 0, true⟩ := by rw [eR2]; exact gp
  have ltr6M : r6 < M.next := by have h := Mem.lt_of_get gr6h; exact h
  have g7 : R1.get r6 = some ⟨[(i64 0), sln], 26, 2, 0, true⟩ := by rw [eR2]; exact gr6h
  have A8 := hA.same (M' := R1) (fun id b h => by rw [eR2]; exact h)
  obtain ⟨w9, N10, M11, p12, l13, e14, E15, hM16, F17⟩ := call_fc (x := (k, N)) hM5 con24 (⟨⟨_, _, rfl, rfl, rfl⟩, hN62⟩)
  have nx18 := E15.next
  have A19 := A8.ext E15
  have g20 := E15.old g6
  have g21 := E15.old g7
  have ew9 : w9 = (i64 (modI k N)) := F17
  subst ew9
  have lg22 : M11.log = [] := by rw [← e14]; exact lg4
  have X23 := X3.trans E15
  obtain ⟨w24, N25, M26, p27, l28, e29, E30, hM31, F32⟩ := call_fc (x := ((quoI k 13), N)) hM16 con24 (⟨⟨_, _, rfl, rfl, rfl⟩, hN62⟩)
  have nx33 := E30.next
  have A34 := A19.ext E30
  have g35 := E30.old g20
  have g36 := E30.old g21
  have ew24 : w24 = (i64 (modI (quoI k 13) N)) := F32
  subst ew24
  have lg37 : M26.log = [] := by rw [← e29]; exact lg22
  have X38 := X23.trans E30
  obtain ⟨w39, N40, M41, p42, l43, e44, E45, hM46, F47⟩ := call_fc (x := ((quoI k 170), 5)) hM31 con24 (⟨⟨_, _, rfl, rfl, rfl⟩, rfl⟩)
  have nx48 := E45.next
  have A49 := A34.ext E45
  have g50 := E45.old g35
  have g51 := E45.old g36
  have ew39 : w39 = (i64 (modI (quoI k 170) 5)) := F47
  subst ew39
  have lg52 : M41.log = [] := by rw [← e44]; exact lg37
  have X53 := X38.trans E45
  obtain ⟨w54, N55, M56, p57, l58, e59, E60, hM61, F62⟩ := call_fc (x := ((quoI k 900), 9)) hM46 con24 (⟨⟨_, _, rfl, rfl, rfl⟩, rfl⟩)
  have nx63 := E60.next
  have A64 := A49.ext E60
  have g65 := E60.old g50
  have g66 := E60.old g51
  have ew54 : w54 = (i64 (modI (quoI k 900) 9)) := F62
  subst ew54
  have lg67 : M56.log = [] := by rw [← e59]; exact lg52
  have X68 := X53.trans E60
  obtain ⟨b69, M70, eb71, em72, g73, E74, hM75⟩ := new_t hM61 ⟨[(i64 0), (i64 0), (i64 0), (i64 0)], 32, 4, 0, true⟩
  have nb69 : M0.next ≤ b69 := by rw [← eb71]; exact X68.next
  have dpb69 : p ≠ b69 := by have := Mem.lt_of_get g65; omega
  have dr6b69 : r6 ≠ b69 := by have := Mem.lt_of_get g66; omega
  have A76 := A64.new eb71 E74
  have g77 := E74.old g65
  have g78 := E74.old g66
  have lg79 : M70.log = [] := by rw [← em72]; exact lg67
  have nx80 := E74.next
  have X81 := X68.trans E74
  obtain ⟨M82, q83, g84, kp85, X86, hM87, nx88⟩ := store_t (o := 0) (v := (.agg ⟨[(i64 (modI k N)), (i64 (modI (quoI k 13) N)), (i64 (modI (quoI k 170) 5)), (i64 (modI (quoI k 900) 9))]⟩)) (new := [(i64 (modI k N)), (i64 (modI (quoI k 13) N)), (i64 (modI (quoI k 170) 5)), (i64 (modI (quoI k 900) 9))]) X81 nb69 hM75 dS32 g73 rfl rfl (Nat.zero_le _) (Nat.le_of_ble_eq_true rfl) rfl
  replace g84 : M82.get b69 = some ⟨[(i64 (modI k N)), (i64 (modI (quoI k 13) N)), (i64 (modI (quoI k 170) 5)), (i64 (modI (quoI k 900) 9))], 32, 4, 0, true⟩ := g84
  have A89 := A76.keep (by simp) (fun id h _ => kp85 id h)
  have g90 := (kp85 _ dpb69).trans g77
  have g91 := (kp85 _ dr6b69).trans g78
  have lg92 : M82.log = [b69] := by rw [nx88, lg79]
  obtain ⟨M93, ef94⟩ : ∃ m : Mem, m = (Mem.mk M82.blks M82.next M82.hide (M82.log ++ M.log)) := ⟨_, rfl⟩
  have X95 : Ext M0 M93 := by rw [ef94]; exact Ext.join (X0) (X86)
  have hM96 : MemOk M93 := by rw [ef94]; exact hM87
  have g97 : M93.get p = some ⟨[(i64 N), S], 26, 2, 0, true⟩ := by rw [ef94]; exact g90
  have g98 : M93.get r6 = some ⟨[(i64 0), sln], 26, 2, 0, true⟩ := by rw [ef94]; exact g91
  have g99 : M93.get b69 = some ⟨[(i64 (modI k N)), (i64 (modI (quoI k 13) N)), (i64 (modI (quoI k 170) 5)), (i64 (modI (quoI k 900) 9))], 32, 4, 0, true⟩ := by rw [ef94]; exact g84
  have A100 := A89.same (M' := M93) (fun id b h => by rw [ef94]; exact h)
  obtain ⟨w101, N102, M103, p104, l105, e106, E107, hM108, F109⟩ := call_fc (x := (md, 3)) hM96 con24 (⟨⟨_, _, rfl, rfl, rfl⟩, rfl⟩)
  have nx110 := E107.next
  have A111 := A100.ext E107
  have g112 := E107.old g97
  have g113 := E107.old g98
  have g114 := E107.old g99
  have ew101 : w101 = (i64 (modI md 3)) := F109
  subst ew101
  have X115 := X95.trans E107
  obtain ⟨w116, N117, M118, p119, l120, e121, E122, hM123, F124⟩ := call_fc (x := (md, 3)) hM108 con24 (⟨⟨_, _, rfl, rfl, rfl⟩, rfl⟩)
  have nx125 := E122.next
  have A126 := A111.ext E122
  have g127 := E122.old g112
  have g128 := E122.old g113
  have g129 := E122.old g114
  have ew116 : w116 = (i64 (modI md 3)) := F124
  subst ew116
  have X130 := X115.trans E122
  obtain ⟨w131, N132, M133, p134, l135, e136, E137, hM138, F139⟩ := call_fc (x := (k, 31)) hM123 con24 (⟨⟨_, _, rfl, rfl, rfl⟩, rfl⟩)
  have nx140 := E137.next
  have A141 := A126.ext E137
  have g142 := E137.old g127
  have g143 := E137.old g128
  have g144 := E137.old g129
  have ew131 : w131 = (i64 (modI k 31)) := F139
  subst ew131
  have X145 := X130.trans E137
  obtain ⟨w146, N147, M148, p149, l150, e151, E152, hM153, F154⟩ := call_fc (x := ((quoI k 31), 3)) hM138 con24 (⟨⟨_, _, rfl, rfl, rfl⟩, rfl⟩)
  have nx155 := E152.next
  have A156 := A141.ext E152
  have g157 := E152.old g142
  have g158 := E152.old g143
  have g159 := E152.old g144
  have ew146 : w146 = (i64 (modI (quoI k 31) 3)) := F154
  subst ew146
  have X160 := X145.trans E152
  obtain ⟨M161, q162, g163, kp164, X165, hM166, nx167⟩ := store_t (o := 3) (v := (i64 (IntKind.wrap .i64 ((2147483647 : Int) - (modI (quoI k 31) 3))))) (new := [(i64 (modI k N)), (i64 (modI (quoI k 13) N)), (i64 (modI (quoI k 170) 5)), (i64 (IntKind.wrap .i64 ((2147483647 : Int) - (modI (quoI k 31) 3))))]) X160 nb69 hM153 dS3 g159 rfl rfl (Nat.zero_le _) (Nat.le_of_ble_eq_true rfl) rfl
  replace g163 : M161.get b69 = some ⟨[(i64 (modI k N)), (i64 (modI (quoI k 13) N)), (i64 (modI (quoI k 170) 5)), (i64 (IntKind.wrap .i64 ((2147483647 : Int) - (modI (quoI k 31) 3))))], 32, 4, 0, true⟩ := g163
  have A168 := A156.keep (by simp) (fun id h _ => kp164 id h)
  have g169 := (kp164 _ dpb69).trans g157
  have g170 := (kp164 _ dr6b69).trans g158
  obtain ⟨b171, M172, eb173, em174, g175, E176, hM177⟩ := new_t hM166 ⟨[(i64 (modI k N)), (i64 (modI (quoI k 13) N)), (i64 (modI (quoI k 170) 5)), (i64 (IntKind.wrap .i64 ((2147483647 : Int) - (modI (quoI k 31) 3))))], 32, 4, 0, true⟩
  have nb171 : M0.next ≤ b171 := by rw [← eb173]; exact X165.next
  have dpb171 : p ≠ b171 := by have := Mem.lt_of_get g169; omega
  have dr6b171 : r6 ≠ b171 := by have := Mem.lt_of_get g170; omega
  have db69b171 : b69 ≠ b171 := by have := Mem.lt_of_get g163; omega
  have A178 := A168.new eb173 E176
  have g179 := E176.old g169
  have g180 := E176.old g170
  have g181 := E176.old g163
  have nx182 := E176.next
  have X183 := X165.trans E176
  obtain ⟨t184, S185, M186, q187, X188, hM189, A190, kb191, ka192⟩ := accc_append (P := Try.prog) (sT := 24) (xT := 24) (y := 32) (c := 2) A178 X183 hM177 (by intro x hx; simp only [List.mem_cons, List.not_mem_nil, or_false] at hx; rcases hx with rfl | rfl | rfl | rfl <;> first | exact Mem.lt_of_get g175 | exact Mem.lt_of_get g181 | exact Mem.lt_of_get g179 | exact Mem.lt_of_get g180) (by kernel_rfl) (by kernel_rfl) (by kernel_rfl) (by kernel_rfl) (by decide) (by decide) rfl hl30 g175 (o := 0) (new := [(i64 (modI k N)), (i64 (modI (quoI k 13) N)), (i64 (modI (quoI k 170) 5)), (i64 (IntKind.wrap .i64 ((2147483647 : Int) - (modI (quoI k 31) 3))))]) rfl rfl rfl
  have g193 := kb191 _ _ g179 (by simp)
  have g194 := kb191 _ _ g180 (by simp)
  have g195 := kb191 _ _ g181 (by simp)
  have g196 := kb191 _ _ g175 (by simp)
  obtain ⟨M197, q198, g199, kp200, X201, hM202, nx203⟩ := store_t (o := 1) (v := S185) (new := [(i64 N), S185]) X188 np hM189 dS24 g193 (by rw [cells_cell A190.isCell]; rfl) (by rw [cells_cell A190.isCell]; show (isCell _ && true) = true; rw [A190.isCell]; rfl) (Nat.zero_le _) (Nat.le_of_ble_eq_true rfl) (by rw [cells_cell A190.isCell]; rfl)
  replace g199 : M197.get p = some ⟨[(i64 N), S185], 26, 2, 0, true⟩ := g199
  have A204 := A190.keep (by simp) (fun id h _ => kp200 id h)
  have g205 := (kp200 _ (Ne.symm dpr6)).trans g194
  have g206 := (kp200 _ (Ne.symm dpb69)).trans g195
  have g207 := (kp200 _ (Ne.symm dpb171)).trans g196
  have hraw := r92z_raw p r6 bb o m c i N md k S l M  M11 M26 M41 M56 b69 (Mem.mk M70.blks M70.next (hides 0 [⟨14, 1, M41.next, M56.next⟩, ⟨11, 1, M26.next, M41.next⟩, ⟨8, 1, M11.next, M26.next⟩, ⟨3, 1, M.next, M11.next⟩, ⟨2, 1, M.next, M.next⟩] ++ M.hide) M70.log) M82 M103 M118 M133 M148 M161 b171 M172 t184 S185 M186 M197
  dsimp only at hraw
  have rw0 : Mem.mk M.blks M.next M.hide [] = R1 := eR2.symm
  have rw1 : Mem.mk M11.blks M11.next M.hide M11.log = M11 := by rw [(show M.hide = M11.hide from ((X0).hide.trans (X23).hide.symm))]
  have rw2 : Mem.mk M11.blks M11.next (hides 64 [⟨3, 1, M.next, M11.next⟩, ⟨2, 1, M.next, M.next⟩] ++ M.hide) M11.log = hidx (hides 64 [⟨3, 1, M.next, M11.next⟩, ⟨2, 1, M.next, M.next⟩]) M11 := by rw [(show M.hide = M11.hide from ((X0).hide.trans (X23).hide.symm))]; rfl
  have rw3 : Mem.mk M26.blks M26.next M.hide M26.log = M26 := by rw [(show M.hide = M26.hide from ((X0).hide.trans (X38).hide.symm))]
  have rw4 : Mem.mk M41.blks M41.next M.hide M41.log = M41 := by rw [(show M.hide = M41.hide from ((X0).hide.trans (X53).hide.symm))]
  have rw5 : Mem.mk M56.blks M56.next M.hide M56.log = M56 := by rw [(show M.hide = M56.hide from ((X0).hide.trans (X68).hide.symm))]
  have rw6 : Mem.mk M70.blks M70.next M.hide M70.log = M70 := by rw [(show M.hide = M70.hide from ((X0).hide.trans (X81).hide.symm))]
  have rw7 : Mem.mk M82.blks M82.next M.hide M82.log = M82 := by rw [(show M.hide = M82.hide from ((X0).hide.trans (X86).hide.symm))]
  have rw8 : (Mem.mk M82.blks M82.next M.hide (M82.log ++ M.log)) = (Mem.mk M82.blks M82.next M82.hide (M82.log ++ M.log)) := by rw [(show M.hide = M82.hide from ((X0).hide.trans (X86).hide.symm))]
  have rw9 : (Mem.mk M82.blks M82.next M82.hide (M82.log ++ M.log)) = M93 := ef94.symm
  try rw [rw0] at hraw
  try rw [rw1] at hraw
  try rw [rw2] at hraw
  try rw [rw3] at hraw
  try rw [rw4] at hraw
  try rw [rw5] at hraw
  try rw [rw6] at hraw
  try rw [rw7] at hraw
  try rw [rw8] at hraw
  try rw [rw9] at hraw
  obtain ⟨T1, h1, h2⟩ := Rd.told noNumP mixedP (fun B => specsB_ok (k := []) (hS9_19 B) (fun p hp => by cases hp)) (fun _ _ => rfl) hraw (hk (bT cc0) (hk (bT cc0) (hk (bT cc0) (hk (bT cc1) (hk (q_inb (by omega) (by simp at cc0; omega)) (hk (q_ld (aload_ext X0 hld0)) (hk (lC dC3 g6 rfl) (hk (q_call rfl p12 l13 e14) (hk (lC dC3 (hidx_get.2 ⟨hides_low (by simp; omega), g20⟩) rfl) (hk (q_lt ltpM) (hk (q_call rfl p27 l28 e29) (hk (q_call rfl p42 l43 e44) (hk (q_call rfl p57 l58 e59) (hk (q_eq (by rw [← eb71, ← em72]; kernel_rfl) Nat.one_ne_zero) (hk (q_st q83) (hk (q_apart (by rw [lg92]; simp <;> omega)) (hk (q_call rfl p104 l105 e106) (hk (bF cc2) (hk (q_call rfl p119 l120 e121) (hk (bF cc3) (hk (q_call rfl p134 l135 e136) (hk (bT cc4) (hk (q_call rfl p149 l150 e151) (hk (q_st q162) (hk (lC dC24 g169 rfl) (hk (lA ⟨dA32, dS32⟩ g163 rfl) (hk (q_eq (by rw [← eb173, ← em174]; kernel_rfl) Nat.one_ne_zero) (hk (q_app q187 (by cases t184 <;> simp)) (hk (q_st q198) hn)))))))))))))))))))))))))))))
  exact ⟨T1, M197, S185, h1, h2, X201, hM202, g199, g205, A204.less (by intro x hx; simp only [List.mem_cons, List.not_mem_nil, or_false] at hx; rcases hx with rfl | rfl <;> simp)⟩
theorem r92y_raw (p r6 bb o m c i : Nat) (N md k : Int) (S : Value) (l : List E4) (M : Mem) (M11 : Mem) (M26 : Mem) (M41 : Mem) (M56 : Mem) (b69 : Nat) (M70 : Mem) (M82 : Mem) (M103 : Mem) (M118 : Mem) (M133 : Mem) (b146 : Nat) (M147 : Mem) (t159 : Bool) (S160 : Value) (M161 : Mem) (M172 : Mem) : oR Try.prog [] 100 Try.f11 (q11.loopAt 0) [(1, (sli bb o m c)), (2, (i64 md)), (6, (pt r6 0)), (7, (pt p 0)), (8, (i64 (((i : Nat) : Int))))] M [ttT 10, ttT 12, ttT 15, ttT 16, ttT 22, ttL 24 (i64 k), ttL 32 (i64 N), ttV 34 (i64 (modI k N)) M11, ttL 42 (i64 N), ttV 44 (i64 (modI (quoI k 13) N)) M26, ttV 50 (i64 (modI (quoI k 170) 5)) M41, ttV 56 (i64 (modI (quoI k 900) 9)) M56, ttV 60 (pt b69 0) M70, ttS 62 M82, ttV 66 (i64 (modI md 3)) M103, ttF 69, ttV 73 (i64 (modI md 3)) M118, ttF 76, ttV 80 (i64 (modI k 31)) M133, ttF 83, ttL 87 S, ttL 89 (.agg ⟨[(i64 (modI k N)), (i64 (modI (quoI k 13) N)), (i64 (modI (quoI k 170) 5)), (i64 (modI (quoI k 900) 9))]⟩), ttV 91 (sli b146 0 1 2) M147, .at 93 ((bif t159 then 1 else 2), .val S160, M161), ttS 97 M172] [1, 2, 6, 7, 8] = some (.normal, [some (sli bb o m c), some (i64 md), some (pt r6 0), some (pt p 0), some (i64 (IntKind.wrap .i64 ((((i : Nat) : Int)) + (1 : Int))))], M172, [qT (decide ((((i : Nat) : Int)) < (((m : Nat) : Int)))), qT (decide ((((i : Nat) : Int)) < (((m : Nat) : Int)))), qT (decide ((((i : Nat) : Int)) < (((m : Nat) : Int)))), qT (decide ((((i : Nat) : Int)) < (40 : Int))), .q (.inb (((i : Nat) : Int)) m) (ansB true), qL 3 bb (o + (((i : Nat) : Int) : Int).toNat * 1) M (i64 k), qL 3 p 0 (Mem.mk M.blks M.next M.hide []) (i64 N), qC 24 [(i64 k), (i64 N)] (Mem.mk M.blks M.next M.hide []) (i64 (modI k N)) M11, qL 3 p 0 (Mem.mk M11.blks M11.next (hides 64 [⟨3, 1, M.next, M11.next⟩, ⟨2, 1, M.next, M.next⟩] ++ M.hide) M11.log) (i64 N), qT (Nat.blt p M.next), qC 24 [(i64 (quoI k 13)), (i64 N)] (Mem.mk M11.blks M11.next M.hide M11.log) (i64 (modI (quoI k 13) N)) M26, qC 24 [(i64 (quoI k 170)), (i64 5)] (Mem.mk M26.blks M26.next M.hide M26.log) (i64 (modI (quoI k 170) 5)) M41, qC 24 [(i64 (quoI k 900)), (i64 9)] (Mem.mk M41.blks M41.next M.hide M41.log) (i64 (modI (quoI k 900) 9)) M56, .eq (aalloc Try.prog 32 (Mem.mk M56.blks M56.next (hides 0 [⟨14, 1, M41.next, M56.next⟩, ⟨11, 1, M26.next, M41.next⟩, ⟨8, 1, M11.next, M26.next⟩, ⟨3, 1, M.next, M11.next⟩, ⟨2, 1, M.next, M.next⟩] ++ M.hide) M56.log)) (1, .val (pt b69 0), M70), qS 32 b69 0 (.agg ⟨[(i64 (modI k N)), (i64 (modI (quoI k 13) N)), (i64 (modI (quoI k 170) 5)), (i64 (modI (quoI k 900) 9))]⟩) (Mem.mk M70.blks M70.next M.hide M70.log) M82, qT (apartN [p] M82.log), qC 24 [(i64 md), (i64 3)] (Mem.mk M82.blks M82.next M.hide (M82.log ++ M.log)) (i64 (modI md 3)) M103, qF ((modI md 3) == (0 : Int)), qC 24 [(i64 md), (i64 3)] M103 (i64 (modI md 3)) M118, qF ((modI md 3) == (1 : Int)), qC 24 [(i64 k), (i64 31)] M118 (i64 (modI k 31)) M133, qF ((modI k 31) == (0 : Int)), qL 24 p 1 M133 S, qL 32 b69 0 M133 (.agg ⟨[(i64 (modI k N)), (i64 (modI (quoI k 13) N)), (i64 (modI (quoI k 170) 5)), (i64 (modI (quoI k 900) 9))]⟩), .eq (abuildSlice Try.prog 24 1 [(0, (.agg ⟨[(i64 (modI k N)), (i64 (modI (quoI k 13) N)), (i64 (modI (quoI k 170) 5)), (i64 (modI (quoI k 900) 9))]⟩))] M133) (1, .val (sli b146 0 1 2), M147), .q (.append [24, 24] S (sli b146 0 1 2) M147) ((bif t159 then 1 else 2), .val S160, M161), qS 24 p 1 S160 M161 M172]) := by cases t159 <;> kernel_rfl
theorem r92y (p r6 bb o m c i : Nat) (N md k : Int) (S : Value) (l : List E4) {M M0 : Mem} (hM : MemOk M) (X0 : Ext M0 M) (np : M0.next ≤ p) (gp : M.get p = some ⟨[i64 N, S], 26, 2, 0, true⟩) (gr6h : M.get r6 = some ⟨[i64 0, sln], 26, 2, 0, true⟩) (dpr6 : p ≠ r6) (hN62 : (decide (0 < N) && decide (N < 2 ^ 62)) = true) (hA : AccC 32 4 M0 [p, r6] l.length ((l.map eRow).flatten) S M) (hl30 : l.length < 1073741824) (cc0 : (decide ((((i : Nat) : Int)) < (((m : Nat) : Int)))) = true) (cc1 : (decide ((((i : Nat) : Int)) < (40 : Int))) = true) (cc2 : ((modI md 3) == (0 : Int)) = false) (cc3 : ((modI md 3) == (1 : Int)) = false) (cc4 : ((modI k 31) == (0 : Int)) = false) (hld0 : aload Try.prog 3 ⟨bb, o + (((i : Nat) : Int) : Int).toNat * 1, none⟩ M0 = some (i64 k)) : ∃ T1 M' S160, Rd Try.prog [] (q11.loopAt 0) Try.f11.ntmps (fr [(1, (sli bb o m c)), (2, (i64 md)), (6, (pt r6 0)), (7, (pt p 0)), (8, (i64 (((i : Nat) : Int))))]) M .normal T1 M' ∧ [1, 2, 6, 7, 8].map T1.get = [some (sli bb o m c), some (i64 md), some (pt r6 0), some (pt p 0), some (i64 (IntKind.wrap .i64 ((((i : Nat) : Int)) + (1 : Int))))] ∧ Ext M0 M' ∧ MemOk M' ∧ M'.get p = some ⟨[(i64 N), S160], 26, 2, 0, true⟩ ∧ M'.get r6 = some ⟨[(i64 0), sln], 26, 2, 0, true⟩ ∧ AccC 32 4 M0 [p, r6] (l.length + 1) ((l.map eRow).flatten ++ [(i64 (modI k N)), (i64 (modI (quoI k 13) N)), (i64 (modI (quoI k 170) 5)), (i64 (modI (quoI k 900) 9))]) S160 M' := by
  obtain ⟨R1, eR2⟩ : ∃ m : Mem, m = Mem.mk M.blks M.next M.hide [] := ⟨_, rfl⟩
  have X3 : Ext (Mem.mk M0.blks M0.next M0.hide []) R1 := by rw [eR2]; exact Ext.aside (X0)
  have lg4 : R1.log = [] := by rw [eR2]
  have nxR1 : R1.next = M.next := by rw [eR2]
  have hM5 : MemOk R1 := by rw [eR2]; exact MemOk.log hM
  have ltpM : p < M.next := by have h := Mem.lt_of_get gp; exact h
  have g6 : R1.get p = some ⟨[(i64 N), S], 26, 2, 0, true⟩ := by rw [eR2]; exact gp
  have ltr6M : r6 < M.next := by have h := Mem.lt_of_get gr6h; exact h
  have g7 : R1.get r6 = some ⟨[(i64 0), sln], 26, 2, 0, true⟩ := by rw [eR2]; exact gr6h
  have A8 := hA.same (M' := R1) (fun id b h => by rw [eR2]; exact h)
  obtain ⟨w9, N10, M11, p12, l13, e14, E15, hM16, F17⟩ := call_fc (x := (k, N)) hM5 con24 (⟨⟨_, _, rfl, rfl, rfl⟩, hN62⟩)
  have nx18 := E15.next
  have A19 := A8.ext E15
  have g20 := E15.old g6
  have g21 := E15.old g7
  have ew9 : w9 = (i64 (modI k N)) := F17
  subst ew9
  have lg22 : M11.log = [] := by rw [← e14]; exact lg4
  have X23 := X3.trans E15
  obtain ⟨w24, N25, M26, p27, l28, e29, E30, hM31, F32⟩ := call_fc (x := ((quoI k 13), N)) hM16 con24 (⟨⟨_, _, rfl, rfl, rfl⟩, hN62⟩)
  have nx33 := E30.next
  have A34 := A19.ext E30
  have g35 := E30.old g20
  have g36 := E30.old g21
  have ew24 : w24 = (i64 (modI (quoI k 13) N)) := F32
  subst ew24
  have lg37 : M26.log = [] := by rw [← e29]; exact lg22
  have X38 := X23.trans E30
  obtain ⟨w39, N40, M41, p42, l43, e44, E45, hM46, F47⟩ := call_fc (x := ((quoI k 170), 5)) hM31 con24 (⟨⟨_, _, rfl, rfl, rfl⟩, rfl⟩)
  have nx48 := E45.next
  have A49 := A34.ext E45
  have g50 := E45.old g35
  have g51 := E45.old g36
  have ew39 : w39 = (i64 (modI (quoI k 170) 5)) := F47
  subst ew39
  have lg52 : M41.log = [] := by rw [← e44]; exact lg37
  have X53 := X38.trans E45
  obtain ⟨w54, N55, M56, p57, l58, e59, E60, hM61, F62⟩ := call_fc (x := ((quoI k 900), 9)) hM46 con24 (⟨⟨_, _, rfl, rfl, rfl⟩, rfl⟩)
  have nx63 := E60.next
  have A64 := A49.ext E60
  have g65 := E60.old g50
  have g66 := E60.old g51
  have ew54 : w54 = (i64 (modI (quoI k 900) 9)) := F62
  subst ew54
  have lg67 : M56.log = [] := by rw [← e59]; exact lg52
  have X68 := X53.trans E60
  obtain ⟨b69, M70, eb71, em72, g73, E74, hM75⟩ := new_t hM61 ⟨[(i64 0), (i64 0), (i64 0), (i64 0)], 32, 4, 0, true⟩
  have nb69 : M0.next ≤ b69 := by rw [← eb71]; exact X68.next
  have dpb69 : p ≠ b69 := by have := Mem.lt_of_get g65; omega
  have dr6b69 : r6 ≠ b69 := by have := Mem.lt_of_get g66; omega
  have A76 := A64.new eb71 E74
  have g77 := E74.old g65
  have g78 := E74.old g66
  have lg79 : M70.log = [] := by rw [← em72]; exact lg67
  have nx80 := E74.next
  have X81 := X68.trans E74
  obtain ⟨M82, q83, g84, kp85, X86, hM87, nx88⟩ := store_t (o := 0) (v := (.agg ⟨[(i64 (modI k N)), (i64 (modI (quoI k 13) N)), (i64 (modI (quoI k 170) 5)), (i64 (modI (quoI k 900) 9))]⟩)) (new := [(i64 (modI k N)), (i64 (modI (quoI k 13) N)), (i64 (modI (quoI k 170) 5)), (i64 (modI (quoI k 900) 9))]) X81 nb69 hM75 dS32 g73 rfl rfl (Nat.zero_le _) (Nat.le_of_ble_eq_true rfl) rfl
  replace g84 : M82.get b69 = some ⟨[(i64 (modI k N)), (i64 (modI (quoI k 13) N)), (i64 (modI (quoI k 170) 5)), (i64 (modI (quoI k 900) 9))], 32, 4, 0, true⟩ := g84
  have A89 := A76.keep (by simp) (fun id h _ => kp85 id h)
  have g90 := (kp85 _ dpb69).trans g77
  have g91 := (kp85 _ dr6b69).trans g78
  have lg92 : M82.log = [b69] := by rw [nx88, lg79]
  obtain ⟨M93, ef94⟩ : ∃ m : Mem, m = (Mem.mk M82.blks M82.next M82.hide (M82.log ++ M.log)) := ⟨_, rfl⟩
  have X95 : Ext M0 M93 := by rw [ef94]; exact Ext.join (X0) (X86)
  have hM96 : MemOk M93 := by rw [ef94]; exact hM87
  have g97 : M93.get p = some ⟨[(i64 N), S], 26, 2, 0, true⟩ := by rw [ef94]; exact g90
  have g98 : M93.get r6 = some ⟨[(i64 0), sln], 26, 2, 0, true⟩ := by rw [ef94]; exact g91
  have g99 : M93.get b69 = some ⟨[(i64 (modI k N)), (i64 (modI (quoI k 13) N)), (i64 (modI (quoI k 170) 5)), (i64 (modI (quoI k 900) 9))], 32, 4, 0, true⟩ := by rw [ef94]; exact g84
  have A100 := A89.same (M' := M93) (fun id b h => by rw [ef94]; exact h)
  obtain ⟨w101, N102, M103, p104, l105, e106, E107, hM108, F109⟩ := call_fc (x := (md, 3)) hM96 con24 (⟨⟨_, _, rfl, rfl, rfl⟩, rfl⟩)
  have nx110 := E107.next
  have A111 := A100.ext E107
  have g112 := E107.old g97
  have g113 := E107.old g98
  have g114 := E107.old g99
  have ew101 : w101 = (i64 (modI md 3)) := F109
  subst ew101
  have X115 := X95.trans E107
  obtain ⟨w116, N117, M118, p119, l120, e121, E122, hM123, F124⟩ := call_fc (x := (md, 3)) hM108 con24 (⟨⟨_, _, rfl, rfl, rfl⟩, rfl⟩)
  have nx125 := E122.next
  have A126 := A111.ext E122
  have g127 := E122.old g112
  have g128 := E122.old g113
  have g129 := E122.old g114
  have ew116 : w116 = (i64 (modI md 3)) := F124
  subst ew116
  have X130 := X115.trans E122
  obtain ⟨w131, N132, M133, p134, l135, e136, E137, hM138, F139⟩ := call_fc (x := (k, 31)) hM123 con24 (⟨⟨_, _, rfl, rfl, rfl⟩, rfl⟩)
  have nx140 := E137.next
  have A141 := A126.ext E137
  have g142 := E137.old g127
  have g143 := E137.old g128
  have g144 := E137.old g129
  have ew131 : w131 = (i64 (modI k 31)) := F139
  subst ew131
  have X145 := X130.trans E137
  obtain ⟨b146, M147, eb148, em149, g150, E151, hM152⟩ := new_t hM138 ⟨[(i64 (modI k N)), (i64 (modI (quoI k 13) N)), (i64 (modI (quoI k 170) 5)), (i64 (modI (quoI k 900) 9))], 32, 4, 0, true⟩
  have nb146 : M0.next ≤ b146 := by rw [← eb148]; exact X145.next
  have dpb146 : p ≠ b146 := by have := Mem.lt_of_get g142; omega
  have dr6b146 : r6 ≠ b146 := by have := Mem.lt_of_get g143; omega
  have db69b146 : b69 ≠ b146 := by have := Mem.lt_of_get g144; omega
  have A153 := A141.new eb148 E151
  have g154 := E151.old g142
  have g155 := E151.old g143
  have g156 := E151.old g144
  have nx157 := E151.next
  have X158 := X145.trans E151
  obtain ⟨t159, S160, M161, q162, X163, hM164, A165, kb166, ka167⟩ := accc_append (P := Try.prog) (sT := 24) (xT := 24) (y := 32) (c := 2) A153 X158 hM152 (by intro x hx; simp only [List.mem_cons, List.not_mem_nil, or_false] at hx; rcases hx with rfl | rfl | rfl | rfl <;> first | exact Mem.lt_of_get g150 | exact Mem.lt_of_get g156 | exact Mem.lt_of_get g154 | exact Mem.lt_of_get g155) (by kernel_rfl) (by kernel_rfl) (by kernel_rfl) (by kernel_rfl) (by decide) (by decide) rfl hl30 g150 (o := 0) (new := [(i64 (modI k N)), (i64 (modI (quoI k 13) N)), (i64 (modI (quoI k 170) 5)), (i64 (modI (quoI k 900) 9))]) rfl rfl rfl
  have g168 := kb166 _ _ g154 (by simp)
  have g169 := kb166 _ _ g155 (by simp)
  have g170 := kb166 _ _ g156 (by simp)
  have g171 := kb166 _ _ g150 (by simp)
  obtain ⟨M172, q173, g174, kp175, X176, hM177, nx178⟩ := store_t (o := 1) (v := S160) (new := [(i64 N), S160]) X163 np hM164 dS24 g168 (by rw [cells_cell A165.isCell]; rfl) (by rw [cells_cell A165.isCell]; show (isCell _ && true) = true; rw [A165.isCell]; rfl) (Nat.zero_le _) (Nat.le_of_ble_eq_true rfl) (by rw [cells_cell A165.isCell]; rfl)
  replace g174 : M172.get p = some ⟨[(i64 N), S160], 26, 2, 0, true⟩ := g174
  have A179 := A165.keep (by simp) (fun id h _ => kp175 id h)
  have g180 := (kp175 _ (Ne.symm dpr6)).trans g169
  have g181 := (kp175 _ (Ne.symm dpb69)).trans g170
  have g182 := (kp175 _ (Ne.symm dpb146)).trans g171
  have hraw := r92y_raw p r6 bb o m c i N md k S l M  M11 M26 M41 M56 b69 (Mem.mk M70.blks M70.next (hides 0 [⟨14, 1, M41.next, M56.next⟩, ⟨11, 1, M26.next, M41.next⟩, ⟨8, 1, M11.next, M26.next⟩, ⟨3, 1, M.next, M11.next⟩, ⟨2, 1, M.next, M.next⟩] ++ M.hide) M70.log) M82 M103 M118 M133 b146 M147 t159 S160 M161 M172
  dsimp only at hraw
  have rw0 : Mem.mk M.blks M.next M.hide [] = R1 := eR2.symm
  have rw1 : Mem.mk M11.blks M11.next M.hide M11.log = M11 := by rw [(show M.hide = M11.hide from ((X0).hide.trans (X23).hide.symm))]
  have rw2 : Mem.mk M11.blks M11.next (hides 64 [⟨3, 1, M.next, M11.next⟩, ⟨2, 1, M.next, M.next⟩] ++ M.hide) M11.log = hidx (hides 64 [⟨3, 1, M.next, M11.next⟩, ⟨2, 1, M.next, M.next⟩]) M11 := by rw [(show M.hide = M11.hide from ((X0).hide.trans (X23).hide.symm))]; rfl
  have rw3 : Mem.mk M26.blks M26.next M.hide M26.log = M26 := by rw [(show M.hide = M26.hide from ((X0).hide.trans (X38).hide.symm))]
  have rw4 : Mem.mk M41.blks M41.next M.hide M41.log = M41 := by rw [(show M.hide = M41.hide from ((X0).hide.trans (X53).hide.symm))]
  have rw5 : Mem.mk M56.blks M56.next M.hide M56.log = M56 := by rw [(show M.hide = M56.hide from ((X0).hide.trans (X68).hide.symm))]
  have rw6 : Mem.mk M70.blks M70.next M.hide M70.log = M70 := by rw [(show M.hide = M70.hide from ((X0).hide.trans (X81).hide.symm))]
  have rw7 : Mem.mk M82.blks M82.next M.hide M82.log = M82 := by rw [(show M.hide = M82.hide from ((X0).hide.trans (X86).hide.symm))]
  have rw8 : (Mem.mk M82.blks M82.next M.hide (M82.log ++ M.log)) = (Mem.mk M82.blks M82.next M82.hide (M82.log ++ M.log)) := by rw [(show M.hide = M82.hide from ((X0).hide.trans (X86).hide.symm))]
  have rw9 : (Mem.mk M82.blks M82.next M82.hide (M82.log ++ M.log)) = M93 := ef94.symm
  try rw [rw0] at hraw
  try rw [rw1] at hraw
  try rw [rw2] at hraw
  try rw [rw3] at hraw
  try rw [rw4] at hraw
  try rw [rw5] at hraw
  try rw [rw6] at hraw
  try rw [rw7] at hraw
  try rw [rw8] at hraw
  try rw [rw9] at hraw
  obtain ⟨T1, h1, h2⟩ := Rd.told noNumP mixedP (fun B => specsB_ok (k := []) (hS9_19 B) (fun p hp => by cases hp)) (fun _ _ => rfl) hraw (hk (bT cc0) (hk (bT cc0) (hk (bT cc0) (hk (bT cc1) (hk (q_inb (by omega) (by simp at cc0; omega)) (hk (q_ld (aload_ext X0 hld0)) (hk (lC dC3 g6 rfl) (hk (q_call rfl p12 l13 e14) (hk (lC dC3 (hidx_get.2 ⟨hides_low (by simp; omega), g20⟩) rfl) (hk (q_lt ltpM) (hk (q_call rfl p27 l28 e29) (hk (q_call rfl p42 l43 e44) (hk (q_call rfl p57 l58 e59) (hk (q_eq (by rw [← eb71, ← em72]; kernel_rfl) Nat.one_ne_zero) (hk (q_st q83) (hk (q_apart (by rw [lg92]; simp <;> omega)) (hk (q_call rfl p104 l105 e106) (hk (bF cc2) (hk (q_call rfl p119 l120 e121) (hk (bF cc3) (hk (q_call rfl p134 l135 e136) (hk (bF cc4) (hk (lC dC24 g142 rfl) (hk (lA ⟨dA32, dS32⟩ g144 rfl) (hk (q_eq (by rw [← eb148, ← em149]; kernel_rfl) Nat.one_ne_zero) (hk (q_app q162 (by cases t159 <;> simp)) (hk (q_st q173) hn)))))))))))))))))))))))))))
  exact ⟨T1, M172, S160, h1, h2, X176, hM177, g174, g180, A179.less (by intro x hx; simp only [List.mem_cons, List.not_mem_nil, or_false] at hx; rcases hx with rfl | rfl <;> simp)⟩
theorem r9xa_raw (p r6 : Nat) (a : Option Addr) (m c i : Nat) (md : Int) (M : Mem)  : oR Try.prog [] 51 Try.f11 (q11.loopAt 0) [(1, (.slice a m c)), (2, (i64 md)), (6, (pt r6 0)), (7, (pt p 0)), (8, (i64 (((i : Nat) : Int))))] M [ttT 5, ttT 10, ttT 12, ttT 15, ttF 16] [6, 7] = some ((.exit 0), [some (pt r6 0), some (pt p 0)], M, [.ln a m c, qT (decide ((((i : Nat) : Int)) < (((m : Nat) : Int)))), qT (decide ((((i : Nat) : Int)) < (((m : Nat) : Int)))), qT (decide ((((i : Nat) : Int)) < (((m : Nat) : Int)))), qF (decide ((((i : Nat) : Int)) < (40 : Int)))]) := by kernel_rfl
theorem r9xa (p r6 : Nat) (a : Option Addr) (m c i : Nat) (md : Int) {M : Mem} (hln : a.isNone = true → m = 0 ∧ c = 0) (cc0 : (decide ((((i : Nat) : Int)) < (((m : Nat) : Int)))) = true) (cc1 : (decide ((((i : Nat) : Int)) < (40 : Int))) = false) : ∃ T1, Rd Try.prog [] (q11.loopAt 0) Try.f11.ntmps (fr [(1, (.slice a m c)), (2, (i64 md)), (6, (pt r6 0)), (7, (pt p 0)), (8, (i64 (((i : Nat) : Int))))]) M (.exit 0) T1 M ∧ [6, 7].map T1.get = [some (pt r6 0), some (pt p 0)] := by
  have hraw := r9xa_raw p r6 a m c i md M  
  obtain ⟨T1, h1, h2⟩ := Rd.told noNumP mixedP (specs_none Try.prog) (fun _ _ => rfl) hraw (hk (lN hln) (hk (bT cc0) (hk (bT cc0) (hk (bT cc0) (hk (bF cc1) hn)))))
  exact ⟨T1, h1, h2⟩
theorem r9xb_raw (p r6 : Nat) (a : Option Addr) (m c i : Nat) (md : Int) (M : Mem)  : oR Try.prog [] 51 Try.f11 (q11.loopAt 0) [(1, (.slice a m c)), (2, (i64 md)), (6, (pt r6 0)), (7, (pt p 0)), (8, (i64 (((i : Nat) : Int))))] M [ttT 5, ttF 10, ttF 12, ttF 15] [6, 7] = some ((.exit 0), [some (pt r6 0), some (pt p 0)], M, [.ln a m c, qF (decide ((((i : Nat) : Int)) < (((m : Nat) : Int)))), qF (decide ((((i : Nat) : Int)) < (((m : Nat) : Int)))), qF (decide ((((i : Nat) : Int)) < (((m : Nat) : Int))))]) := by kernel_rfl
theorem r9xb (p r6 : Nat) (a : Option Addr) (m c i : Nat) (md : Int) {M : Mem} (hln : a.isNone = true → m = 0 ∧ c = 0) (cc0 : (decide ((((i : Nat) : Int)) < (((m : Nat) : Int)))) = false) : ∃ T1, Rd Try.prog [] (q11.loopAt 0) Try.f11.ntmps (fr [(1, (.slice a m c)), (2, (i64 md)), (6, (pt r6 0)), (7, (pt p 0)), (8, (i64 (((i : Nat) : Int))))]) M (.exit 0) T1 M ∧ [6, 7].map T1.get = [some (pt r6 0), some (pt p 0)] := by
  have hraw := r9xb_raw p r6 a m c i md M  
  obtain ⟨T1, h1, h2⟩ := Rd.told noNumP mixedP (specs_none Try.prog) (fun _ _ => rfl) hraw (hk (lN hln) (hk (bF cc0) (hk (bF cc0) (hk (bF cc0) hn))))
  exact ⟨T1, h1, h2⟩
def MkE (M0 M : Mem) (p r6 : Nat) (N : Int) (l : List E4) : Prop := ∃ S, M.get p = some ⟨[i64 N, S], 26, 2, 0, true⟩ ∧ AccC 32 4 M0 [p, r6] l.length ((l.map eRow).flatten) S M
theorem step9 (p r6 bb o m c i : Nat) (N md k : Int) {l : List E4} {M M0 : Mem} (hM : MemOk M) (X0 : Ext M0 M) (np : M0.next ≤ p) (hE : MkE M0 M p r6 N l) (gr6h : M.get r6 = some ⟨[i64 0, sln], 26, 2, 0, true⟩) (dpr6 : p ≠ r6) (hN62 : (decide (0 < N) && decide (N < 2 ^ 62)) = true) (hl : l.length < 1073741824) (hi : i < m) (h40 : i < 40) (hld : aload Try.prog 3 ⟨bb, o + (((i : Nat) : Int) : Int).toNat * 1, none⟩ M0 = some (i64 k)) :
    ∃ T1 M', Rd Try.prog [] (q11.loopAt 0) Try.f11.ntmps (fr [(1, (sli bb o m c)), (2, (i64 md)), (6, (pt r6 0)), (7, (pt p 0)), (8, (i64 (((i : Nat) : Int))))]) M .normal T1 M' ∧ [1, 2, 6, 7, 8].map T1.get = [some (sli bb o m c), some (i64 md), some (pt r6 0), some (pt p 0), some (i64 (IntKind.wrap .i64 ((((i : Nat) : Int)) + (1 : Int))))] ∧ Ext M0 M' ∧ MemOk M' ∧ MkE M0 M' p r6 N (l ++ [edgeM N md k]) ∧ M'.get r6 = some ⟨[i64 0, sln], 26, 2, 0, true⟩ := by
  obtain ⟨S, gp, hS⟩ := hE
  have hc : decide (((i : Nat) : Int) < ((m : Nat) : Int)) = true := decide_eq_true (by omega)
  have hc4 : decide (((i : Nat) : Int) < (40 : Int)) = true := decide_eq_true (by omega)
  have fin : ∀ {S' : Value} {M' : Mem} {es : List Value}, es = eRow (edgeM N md k) → M'.get p = some ⟨[i64 N, S'], 26, 2, 0, true⟩ → AccC 32 4 M0 [p, r6] (l.length + 1) ((l.map eRow).flatten ++ es) S' M' → MkE M0 M' p r6 N (l ++ [edgeM N md k]) := fun {S' M' es} he h5 h7 => by
    subst he
    refine ⟨S', h5, ?_⟩
    rw [List.length_append, List.map_append, List.flatten_append]
    simpa using h7
  cases hm0 : (modI md 3) == (0 : Int) with
  | true =>
    cases hz : (modI k 31) == (0 : Int) with
    | true =>
      obtain ⟨T1, M', S', h1, h2, h3, h4, h5, h6, h7⟩ := r90z p r6 bb o m c i N md k S l hM X0 np gp gr6h dpr6 hN62 hS hl hc hc4 hm0 hz hld
      exact ⟨T1, M', h1, h2, h3, h4, fin (by simp only [edgeM, hm0, hz, cond_true, cond_false]) h5 h7, h6⟩
    | false =>
      obtain ⟨T1, M', S', h1, h2, h3, h4, h5, h6, h7⟩ := r90y p r6 bb o m c i N md k S l hM X0 np gp gr6h dpr6 hN62 hS hl hc hc4 hm0 hz hld
      exact ⟨T1, M', h1, h2, h3, h4, fin (by simp only [edgeM, hm0, hz, cond_true, cond_false]) h5 h7, h6⟩
  | false =>
    cases hm1 : (modI md 3) == (1 : Int) with
    | true =>
      cases hz : (modI k 31) == (0 : Int) with
      | true =>
        obtain ⟨T1, M', S', h1, h2, h3, h4, h5, h6, h7⟩ := r91z p r6 bb o m c i N md k S l hM X0 np gp gr6h dpr6 hN62 hS hl hc hc4 hm0 hm1 hz hld
        exact ⟨T1, M', h1, h2, h3, h4, fin (by simp only [edgeM, hm0, hm1, hz, cond_true, cond_false]) h5 h7, h6⟩
      | false =>
        obtain ⟨T1, M', S', h1, h2, h3, h4, h5, h6, h7⟩ := r91y p r6 bb o m c i N md k S l hM X0 np gp gr6h dpr6 hN62 hS hl hc hc4 hm0 hm1 hz hld
        exact ⟨T1, M', h1, h2, h3, h4, fin (by simp only [edgeM, hm0, hm1, hz, cond_true, cond_false]) h5 h7, h6⟩
    | false =>
      cases hz : (modI k 31) == (0 : Int) with
      | true =>
        obtain ⟨T1, M', S', h1, h2, h3, h4, h5, h6, h7⟩ := r92z p r6 bb o m c i N md k S l hM X0 np gp gr6h dpr6 hN62 hS hl hc hc4 hm0 hm1 hz hld
        exact ⟨T1, M', h1, h2, h3, h4, fin (by simp only [edgeM, hm0, hm1, hz, cond_true, cond_false]) h5 h7, h6⟩
      | false =>
        obtain ⟨T1, M', S', h1, h2, h3, h4, h5, h6, h7⟩ := r92y p r6 bb o m c i N md k S l hM X0 np gp gr6h dpr6 hN62 hS hl hc hc4 hm0 hm1 hz hld
        exact ⟨T1, M', h1, h2, h3, h4, fin (by simp only [edgeM, hm0, hm1, hz, cond_true, cond_false]) h5 h7, h6⟩
theorem loop9 {p r6 : Nat} {a : Option Addr} {c : Nat} {N md : Int} {ns : List Int} {M0 M : Mem} (hM : MemOk M) (X : Ext M0 M) (hs : pInts ns (.slice a ns.length c) M0) (np : M0.next ≤ p) (gp : M.get p = some ⟨[i64 N, sln], 26, 2, 0, true⟩) (gr6h : M.get r6 = some ⟨[i64 0, sln], 26, 2, 0, true⟩) (dpr6 : p ≠ r6) (hN62 : (decide (0 < N) && decide (N < 2 ^ 62)) = true) :
    ∃ M', LoopR Try.prog [] (q11.loopAt 0) Try.f11.ntmps (fr [(1, .slice a ns.length c), (2, i64 md), (6, pt r6 0), (7, pt p 0), (8, i64 ((0 : Nat) : Int))]) M (.exit 0) (fr [(6, pt r6 0), (7, pt p 0)]) M' ∧ Ext M0 M' ∧ MemOk M' ∧ M'.get r6 = some ⟨[i64 0, sln], 26, 2, 0, true⟩ ∧ MkE M0 M' p r6 N ((ns.take 40).map (edgeM N md)) := by
  have hlen := hs.len
  obtain ⟨_, M', h1, h2, h3, h4, h5⟩ := LoopR.for (P := Try.prog) (GL := []) (b := q11.loopAt 0) (nt := Try.f11.ntmps) (id := 0) (σ := Unit) (n := (ns.take 40).length) (Inv := fun i _ M1 => Ext M0 M1 ∧ MemOk M1 ∧ M1.get r6 = some ⟨[i64 0, sln], 26, 2, 0, true⟩ ∧ MkE M0 M1 p r6 N ((ns.take i).map (edgeM N md)))
    (F := fun i _ => [(1, .slice a ns.length c), (2, i64 md), (6, pt r6 0), (7, pt p 0), (8, i64 ((i : Nat) : Int))])
    (O := fun _ => [(6, pt r6 0), (7, pt p 0)])
    (by
      rintro i _ M1 hi ⟨X1, hM1, hg6, hE⟩
      rw [List.length_take] at hi
      obtain ⟨bb, o, rfl, _⟩ := form_pos hs (by omega)
      have ht : ns[i]? = some ns[i] := List.getElem?_eq_getElem (by omega)
      obtain ⟨T1, M2, h1, h2, h3, h4, h5, h6⟩ := step9 p r6 bb o ns.length c i N md ns[i] hM1 X1 np hE hg6 dpr6 hN62 (by simp; omega) (by omega) (by omega) (ld_one (P := Try.prog) (ty := 3) hs ht rfl dC3)
      rw [wrap_succ (by omega)] at h2
      refine ⟨(), T1, M2, h1, h2, h3, h4, h6, ?_⟩
      rw [List.take_succ_eq_append_getElem (by omega), List.map_append]
      exact h5)
    (by
      rintro _ M1 ⟨X1, hM1, hg6, hE⟩
      by_cases h : ns.length ≤ 40
      · rw [List.take_of_length_le h]
        exact r9xb p r6 a ns.length c ns.length md hs.ln (decide_eq_false (by omega))
      · rw [List.length_take, Nat.min_eq_left (by omega)]
        exact r9xa p r6 a ns.length c 40 md hs.ln (decide_eq_true (by omega)) (decide_eq_false (by omega)))
    (ns.take 40).length 0 (by omega) (s := ()) (M := M) ⟨X, hM, gr6h, sln, gp, .inl ⟨rfl, rfl, rfl⟩⟩
  refine ⟨M', h1, h2, h3, h4, ?_⟩
  rw [List.length_take, ← List.take_take, List.take_length] at h5
  exact h5
end Go.Proofs.Ytipnhelkganmdaa

set_option linter.unusedVariables false
set_option linter.unusedSimpArgs false
open Go Go.Am Go.Proofs
namespace Go.Proofs.Ytipnhelkganmdaa
set_option maxRecDepth 100000
set_option linter.unusedVariables false
set_option linter.unusedSimpArgs false
theorem rK11 : Try.f11.results = #[.cell 6 26] := by kernel_rfl
theorem mkE_new {M0 M M' : Mem} {S : Value} {l : List E4} {p r6 : Nat} (h : AccC 32 4 M0 [p, r6] l.length ((l.map eRow).flatten) S M) (hk : ∀ id, id ≠ r6 → M'.get id = M.get id) (hl : l.length ≤ 9223372036854775807) : pEdges l S (hid M0.next M') := by
  rcases h with ⟨rfl, h0, _⟩ | ⟨b, rfl, _, _, h3, h5, h6⟩
  · rw [List.eq_nil_of_length_eq_zero h0]; exact GRowsAt.nil none
  · exact GRowsAt.of_blk' (hid_of h3 ((hk b (fun e => h5 (by simp [e]))).trans h6)) rfl rfl (fun _ _ => rfl) hl
theorem w9_raw (size : Int) (ans : Option Addr) (cns : Nat) (ns : List Int) (md : Int) (M : Mem) (b1 : Nat) (M2 : Mem) (M12 : Mem) (b22 : Nat) (M23 : Mem) (M32 : Mem) (S40 : Value) (M43 : Mem) (M48 : Mem) : oT Try.prog [0] 60 Try.f11 q11 [(i64 size), (.slice ans ns.length cns), (i64 md)] M [ttV 1 (pt b1 0) M2, ttV 5 (i64 (modI size 12)) M12, ttV 11 (pt b22 0) M23, ttS 13 M32, .blk 16 [1, 2, 6, 7, 8] .normal (fr [(6, (pt b1 0)), (7, (pt b22 0))]) M43, ttL 18 (.agg ⟨[(i64 (((nMk size : Nat) : Int))), S40]⟩), ttS 20 M48] 6 = some (.ret, some (pt b1 0), M48, [.eq (aalloc Try.prog 26 M) (1, .val (pt b1 0), M2), qC 24 [(i64 size), (i64 12)] M2 (i64 (modI size 12)) M12, .eq (aalloc Try.prog 26 M12) (1, .val (pt b22 0), M23), qS 26 b22 0 (.agg ⟨[(i64 (IntKind.wrap .i64 ((1 : Int) + (modI size 12)))), sln]⟩) M23 M32, .blk 0 (.loop (q11.loopAt 0)) Try.f11.ntmps [1, 2, 6, 7, 8] [some (.slice ans ns.length cns), some (i64 md), some (pt b1 0), some (pt b22 0), some (i64 0)] M32 .normal (fr [(6, (pt b1 0)), (7, (pt b22 0))]) M43, qL 26 b22 0 M43 (.agg ⟨[(i64 (((nMk size : Nat) : Int))), S40]⟩), qS 26 b1 0 (.agg ⟨[(i64 (((nMk size : Nat) : Int))), S40]⟩) M43 M48]) := by kernel_rfl
theorem w9 (size : Int) (ans : Option Addr) (cns : Nat) (ns : List Int) (md : Int) {M : Mem} (hM : MemOk M) (hns : pInts ns (.slice ans ns.length cns) M) : ∃ v_ M', Ev Try.prog [] 11 [(i64 size), (.slice ans ns.length cns), (i64 md)] M v_ M' ∧ Ext M M' ∧ MemOk M' ∧ newR pNetN (nMk size, mkL size ns md) M.next v_ M' := by
  obtain ⟨b1, M2, eb3, em4, g5, E6, hM7⟩ := new_t hM ⟨[(i64 0), sln], 26, 2, 0, true⟩
  have nb1 : M.next ≤ b1 := by rw [← eb3]; exact (Ext.refl M).next
  have nx8 := E6.next
  have X9 := (Ext.refl M).trans E6
  have ltb1M12 := Mem.lt_of_get g5
  obtain ⟨w10, N11, M12, p13, l14, e15, E16, hM17, F18⟩ := call_fc (x := (size, 12)) hM7 con24 (⟨⟨_, _, rfl, rfl, rfl⟩, rfl⟩)
  have nx19 := E16.next
  have g20 := E16.old g5
  have ew10 : w10 = (i64 (modI size 12)) := F18
  subst ew10
  have X21 := X9.trans E16
  obtain ⟨b22, M23, eb24, em25, g26, E27, hM28⟩ := new_t hM17 ⟨[(i64 0), sln], 26, 2, 0, true⟩
  have nb22 : M.next ≤ b22 := by rw [← eb24]; exact X21.next
  have db1b22 : b1 ≠ b22 := by have := Mem.lt_of_get g20; omega
  have g29 := E27.old g20
  have nx30 := E27.next
  have X31 := X21.trans E27
  obtain ⟨M32, q33, g34, kp35, X36, hM37, nx38⟩ := store_t (o := 0) (v := (.agg ⟨[(i64 (IntKind.wrap .i64 ((1 : Int) + (modI size 12)))), sln]⟩)) (new := [(i64 (IntKind.wrap .i64 ((1 : Int) + (modI size 12)))), sln]) X31 nb22 hM28 dS26 g26 rfl rfl (Nat.zero_le _) (Nat.le_of_ble_eq_true rfl) rfl
  replace g34 : M32.get b22 = some ⟨[(i64 (IntKind.wrap .i64 ((1 : Int) + (modI size 12)))), sln], 26, 2, 0, true⟩ := g34
  have g39 := (kp35 _ db1b22).trans g29
  obtain ⟨M43, hL44, X45, hM46, gq47, S40, gs42, A41⟩ := loop9 (md := md) hM37 X36 hns nb22 (N := ((nMk size : Nat) : Int)) (by rw [← nMk_eq]; exact g34) g39 (Ne.symm db1b22) (by have := nMk_range size; simp only [Bool.and_eq_true, decide_eq_true_eq]; omega)
  have hcS : isCell S40 = true := AccC.isCell A41
  have db22b1 := (Ne.symm db1b22)
  obtain ⟨M48, q49, g50, kp51, X52, hM53, nx54⟩ := store_t (o := 0) (v := (.agg ⟨[(i64 (((nMk size : Nat) : Int))), S40]⟩)) (new := [(i64 (((nMk size : Nat) : Int))), S40]) X45 nb1 hM46 dS26 gq47 rfl (by show (isCell (i64 _) && (isCell S40 && true)) = true; rw [hcS]; rfl) (Nat.zero_le _) (Nat.le_of_ble_eq_true rfl) rfl
  replace g50 : M48.get b1 = some ⟨[(i64 (((nMk size : Nat) : Int))), S40], 26, 2, 0, true⟩ := g50
  have g55 := (kp51 _ db22b1).trans gs42
  have hlen := hns.len
  have hraw := w9_raw size ans cns ns md M  b1 M2 M12 b22 M23 M32 S40 M43 M48
  exact ⟨(.agg ⟨[(i64 (((nMk size : Nat) : Int))), S40]⟩), M48, Ev.told_cell noNumP mixedP Try.func11 q11_ok (by kernel_rfl) rK11 (fun B => specsB_ok (hS9_19 B) (k := [(0, bone (.loop (q11.loopAt 0)) Try.f11.ntmps [1, 2, 6, 7, 8] [some (.slice ans ns.length cns), some (i64 md), some (pt b1 0), some (pt b22 0), some (i64 0)] M32 .normal (fr [(6, (pt b1 0)), (7, (pt b22 0))]) M43)]) (fun p hp => by simp only [List.mem_cons, List.not_mem_nil, or_false] at hp; rcases hp with rfl <;> first | exact BlkOk.loop noNumP mixedP hL44)) (fun _ h => blksF_one h) hraw (aload_agg (a := ⟨b1, 0, none⟩) dA26 dS26 g50 rfl) (hk (q_eq (by rw [← eb3, ← em4]; kernel_rfl) Nat.one_ne_zero) (hk (q_call rfl p13 l14 e15) (hk (q_eq (by rw [← eb24, ← em25]; kernel_rfl) Nat.one_ne_zero) (hk (q_st q33) (hk (q_blk rfl) (hk (lA ⟨dA26, dS26⟩ gs42 rfl) (hk (q_st q49) hn))))))), X52, hM53, ⟨_, rfl, mkE_new A41 kp51 (Nat.le_trans (by rw [List.length_map, List.length_take]; exact Nat.min_le_left _ _ : (List.map (edgeM ((nMk size : Nat) : Int) md) (ns.take 40)).length ≤ 40) (by decide))⟩⟩
abbrev Q11 := FC (as3 pI pInts pI) (newR pNetN) (fun x => (nMk x.1, mkL x.1 x.2.1 x.2.2))
theorem con11 {x : Int × List Int × Int} {lv : List Value} {M : Mem} (hM : MemOk M) (h : (as3 pI pInts pI) x lv M) : ∃ v M', Con Try.prog [] 11 Q11 lv M v M' := by
  refine FC.con h ?_
  obtain ⟨g0, g1, g2, rfl, k0, k1, k2⟩ := h
  obtain ⟨size, ns, md⟩ := x
  obtain rfl := k0
  obtain rfl := k2
  obtain ⟨a, c, rfl⟩ := GRowsAt.form k1
  obtain ⟨v, M', h1, h2, _, h3⟩ := w9 size a c ns md hM k1
  exact ⟨v, M', h1, h2, h3⟩
end Go.Proofs.Ytipnhelkganmdaa
