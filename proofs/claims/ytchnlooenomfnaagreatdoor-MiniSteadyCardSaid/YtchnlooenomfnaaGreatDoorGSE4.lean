/-
  What is proved: MiniSteady: a machine of Make's is steady just if a letter twice is a letter once: for every x, y, every word. For every argument; one laid table (math/bits) is tied by the card.
-/
import Derived.Test.YtchnlooenomfnaaGreatDoorGSE1
set_option linter.unusedVariables false
set_option linter.unusedSimpArgs false
open Go Go.Am Go.Proofs
namespace Go.Proofs.YtchnlooenomfnaaGreatDoor
set_option maxRecDepth 100000
def gMod2 : List Value → Option Value
  | [.int .i64 x, .int .i64 n] => some (i64 (modI x n))
  | _ => none
def Q33 : List Value → Mem → Value → Mem → Prop := fun args M v M' => gMod2 args = some v ∧ M'.next = M.next
theorem con50 (x n : Int) (h : (decide (0 < n) && decide (n < 2 ^ 62)) = true) {M : Mem} : ∃ v M', Con Tryz.prog [] 50 Q33 [i64 x, i64 n] M v M' :=
  ⟨i64 (modI x n), M, Ev.of_spec okModb (by show (bif decide (0 < n) && decide (n < 2 ^ 62) then some (i64 (modI x n), M) else none) = _; rw [h]; rfl), Ext.refl M, rfl, rfl⟩
theorem hS18_33 (B : Bd) : ∀ p ∈ ([(50, pick (Con Tryz.prog [] 50 Q33))] : List (FuncId × (List Value → Mem → Option (Value × Mem)))), SpecOk Tryz.prog [] B p.1 p.2 := (fun p hp => by simp only [List.mem_cons, List.not_mem_nil, or_false] at hp; rcases hp with rfl <;> first | exact Con.ok _)
theorem r18n_raw (bb o q c mx i : Nat) (few z : Int) (M : Mem) (M8 : Mem) (M20 : Mem) (b30 : Nat) (M31 : Mem) (b39 : Nat) (M40 : Mem) : oR Tryz.prog [] 40 Tryz.f24 (q24.loopAt 0) [(0, (sli bb o q c)), (1, (i64 (((mx : Nat) : Int)))), (2, (i64 few)), (7, sln), (8, (i64 (((i : Nat) : Int))))] M [ttT 10, ttT 12, ttT 14, ttT 17, ttT 18, ttT 26, ttL 28 (i64 z), ttV 32 (i64 (modI few 5)) M8, ttV 36 (i64 (modI z (IntKind.wrap .i64 ((1 : Int) + (modI few 5))))) M20, ttV 38 (sli b30 0 1 2) M31, .at 40 (1, .val (sli b39 0 1 1), M40)] [0, 1, 2, 7, 8] = some (.normal, [some (sli bb o q c), some (i64 (((mx : Nat) : Int))), some (i64 few), some (sli b39 0 1 1), some (i64 (IntKind.wrap .i64 ((((i : Nat) : Int)) + (1 : Int))))], (Mem.mk M40.blks M40.next M.hide (M40.log ++ M.log)), [qT (decide ((((i : Nat) : Int)) < (((q : Nat) : Int)))), qT (decide ((((i : Nat) : Int)) < (((q : Nat) : Int)))), qT (decide ((((i : Nat) : Int)) < (((q : Nat) : Int)))), qT (decide ((((i : Nat) : Int)) < (((q : Nat) : Int)))), qT (decide ((((i : Nat) : Int)) < (((mx : Nat) : Int)))), .q (.inb (((i : Nat) : Int)) q) (ansB true), qL 3 bb (o + (((i : Nat) : Int) : Int).toNat * 1) (Mem.mk M.blks M.next M.hide []) (i64 z), qT (Nat.blt bb M.next), qC 50 [(i64 few), (i64 5)] (Mem.mk M.blks M.next M.hide []) (i64 (modI few 5)) M8, qC 50 [(i64 z), (i64 (IntKind.wrap .i64 ((1 : Int) + (modI few 5))))] (Mem.mk M8.blks M8.next M.hide M8.log) (i64 (modI z (IntKind.wrap .i64 ((1 : Int) + (modI few 5))))) M20, .eq (abuildSlice Tryz.prog 22 1 [(0, (i64 (modI z (IntKind.wrap .i64 ((1 : Int) + (modI few 5))))))] (Mem.mk M20.blks M20.next M.hide M20.log)) (1, .val (sli b30 0 1 2), M31), .q (.append [22, 22] sln (sli b30 0 1 2) (Mem.mk M31.blks M31.next M.hide M31.log)) (1, .val (sli b39 0 1 1), M40), qT (apartN [bb] M40.log)]) := by kernel_rfl
theorem r18n (bb o q c mx i : Nat) (few z : Int) {M : Mem} (hM : MemOk M) {M0 : Mem} (X0 : Ext M0 M) (hF : 1 ≤ IntKind.wrap .i64 ((1 : Int) + (modI few 5)) ∧ IntKind.wrap .i64 ((1 : Int) + (modI few 5)) ≤ 5) (hi : i < 1000) (ltbbM : bb < M.next) (hld : aload Tryz.prog 3 ⟨bb, o + i * 1, none⟩ M = some (i64 z)) (cc0 : (decide ((((i : Nat) : Int)) < (((q : Nat) : Int)))) = true) (cc1 : (decide ((((i : Nat) : Int)) < (((mx : Nat) : Int)))) = true) : ∃ T1 M' b, Rd Tryz.prog [] (q24.loopAt 0) Tryz.f24.ntmps (fr [(0, (sli bb o q c)), (1, (i64 (((mx : Nat) : Int)))), (2, (i64 few)), (7, sln), (8, (i64 (((i : Nat) : Int))))]) M .normal T1 M' ∧ [0, 1, 2, 7, 8].map T1.get = [some (sli bb o q c), some (i64 (((mx : Nat) : Int))), some (i64 few), some (sli b 0 1 1), some (i64 (IntKind.wrap .i64 ((((i : Nat) : Int)) + (1 : Int))))] ∧ Ext M0 M' ∧ MemOk M' ∧ M0.next ≤ b ∧ M'.get b = some ⟨[(i64 (modI z (IntKind.wrap .i64 ((1 : Int) + (modI few 5)))))], 3, 1, 0, true⟩ := by
  obtain ⟨R1, eR2⟩ : ∃ m : Mem, m = Mem.mk M.blks M.next M.hide [] := ⟨_, rfl⟩
  have X3 : Ext (Mem.mk M0.blks M0.next M0.hide []) R1 := by rw [eR2]; exact Ext.aside (X0)
  have lg4 : R1.log = [] := by rw [eR2]
  have nxR1 : R1.next = M.next := by rw [eR2]
  have hM5 : MemOk R1 := by rw [eR2]; exact MemOk.log hM
  obtain ⟨w6, N7, M8, p9, l10, e11, E12, hM13, Q14, G15⟩ := call_t (P := Tryz.prog) (GL := []) (f := 50) hM5 (con50 few 5 (by decide))
  have ew6 : w6 = (i64 (modI few 5)) := (Option.some.inj Q14.1).symm
  subst ew6
  have nxM8 : M8.next = R1.next := by rw [← e11]; exact Q14.2
  have lg16 : M8.log = [] := by rw [← e11]; exact lg4
  have X17 := X3.trans E12
  obtain ⟨w18, N19, M20, p21, l22, e23, E24, hM25, Q26, G27⟩ := call_t (P := Tryz.prog) (GL := []) (f := 50) hM13 (con50 z (IntKind.wrap .i64 ((1 : Int) + (modI few 5))) (by simp <;> omega))
  have ew18 : w18 = (i64 (modI z (IntKind.wrap .i64 ((1 : Int) + (modI few 5))))) := (Option.some.inj Q26.1).symm
  subst ew18
  have nxM20 : M20.next = M8.next := by rw [← e23]; exact Q26.2
  have lg28 : M20.log = [] := by rw [← e23]; exact lg16
  have X29 := X17.trans E24
  obtain ⟨b30, M31, eb32, em33, g34, E35, hM36⟩ := new_t hM25 ⟨[(i64 (modI z (IntKind.wrap .i64 ((1 : Int) + (modI few 5)))))], 3, 1, 0, true⟩
  have nb30 : M0.next ≤ b30 := by rw [← eb32]; exact X29.next
  have lg37 : M31.log = [] := by rw [← em33]; exact lg28
  have X38 := X29.trans E35
  obtain ⟨b39, M40, eb41, em42, g43, E45, hM44⟩ := new_t hM36 ⟨[(i64 (modI z (IntKind.wrap .i64 ((1 : Int) + (modI few 5)))))], 3, 1, 0, true⟩
  have nb39 : M0.next ≤ b39 := by rw [← eb41]; exact X38.next
  have db30b39 : b30 ≠ b39 := by have := Mem.lt_of_get g34; omega
  have g46 := E45.old g34
  have X47 := X38.trans E45
  have lg48 : M40.log = [] := by rw [← em42]; exact lg37
  obtain ⟨M49, ef50⟩ : ∃ m : Mem, m = (Mem.mk M40.blks M40.next M40.hide (M40.log ++ M.log)) := ⟨_, rfl⟩
  have X51 : Ext M0 M49 := by rw [ef50]; exact Ext.join (X0) (X47)
  have hM52 : MemOk M49 := by rw [ef50]; exact hM44
  have g53 : M49.get b30 = some ⟨[(i64 (modI z (IntKind.wrap .i64 ((1 : Int) + (modI few 5)))))], 3, 1, 0, true⟩ := by rw [ef50]; exact g46
  have g54 : M49.get b39 = some ⟨[(i64 (modI z (IntKind.wrap .i64 ((1 : Int) + (modI few 5)))))], 3, 1, 0, true⟩ := by rw [ef50]; exact g43
  have hraw := r18n_raw bb o q c mx i few z M M8 M20 b30 M31 b39 M40
  have rw0 : Mem.mk M.blks M.next M.hide [] = R1 := eR2.symm
  have rw1 : Mem.mk M8.blks M8.next M.hide M8.log = M8 := by rw [(show M.hide = M8.hide from ((X0).hide.trans (X17).hide.symm))]
  have rw2 : Mem.mk M20.blks M20.next M.hide M20.log = M20 := by rw [(show M.hide = M20.hide from ((X0).hide.trans (X29).hide.symm))]
  have rw3 : Mem.mk M31.blks M31.next M.hide M31.log = M31 := by rw [(show M.hide = M31.hide from ((X0).hide.trans (X38).hide.symm))]
  have rw4 : Mem.mk M40.blks M40.next M.hide M40.log = M40 := by rw [(show M.hide = M40.hide from ((X0).hide.trans (X47).hide.symm))]
  have rw5 : (Mem.mk M40.blks M40.next M.hide (M40.log ++ M.log)) = (Mem.mk M40.blks M40.next M40.hide (M40.log ++ M.log)) := by rw [(show M.hide = M40.hide from ((X0).hide.trans (X47).hide.symm))]
  have rw6 : (Mem.mk M40.blks M40.next M40.hide (M40.log ++ M.log)) = M49 := ef50.symm
  try rw [rw0] at hraw
  try rw [rw1] at hraw
  try rw [rw2] at hraw
  try rw [rw3] at hraw
  try rw [rw4] at hraw
  try rw [rw5] at hraw
  try rw [rw6] at hraw
  obtain ⟨T1, h1, h2⟩ := Rd.told noNumP mixedP (fun B => specsB_ok (k := []) (hS18_33 B) (fun p hp => by cases hp)) (fun _ _ => rfl) hraw (hk (bT cc0) (hk (bT cc0) (hk (bT cc0) (hk (bT cc0) (hk (bT cc1) (hk (q_inb (by omega) (by have := of_decide_eq_true cc0; omega)) (hk (q_ld (by rw [eR2]; exact hld)) (hk (q_lt ltbbM) (hk (q_call rfl p9 l10 e11) (hk (q_call rfl p21 l22 e23) (hk (q_eq (by rw [← eb32, ← em33]; kernel_rfl) Nat.one_ne_zero) (hk (q_app (by rw [← eb41, ← em42]; exact append_nil (w := 1) (by kernel_rfl) (by kernel_rfl) (y := 8) (by kernel_rfl) (by decide) (by decide) g34 rfl rfl rfl) Nat.one_ne_zero) (hk (q_apart (by rw [lg48]; simp <;> omega)) hn)))))))))))))
  exact ⟨T1, M49, b39, h1, h2, X51, hM52, nb39, g54⟩
theorem r18s_raw (bb o q c mx i : Nat) (few z : Int) (bw : Nat) (cs : List Value) (M : Mem) (M9 : Mem) (M22 : Mem) (b33 : Nat) (M34 : Mem) (b45 : Nat) (M46 : Mem) : oR Tryz.prog [] 40 Tryz.f24 (q24.loopAt 0) [(0, (sli bb o q c)), (1, (i64 (((mx : Nat) : Int)))), (2, (i64 few)), (7, (sli bw 0 i i)), (8, (i64 (((i : Nat) : Int))))] M [ttT 10, ttT 12, ttT 14, ttT 17, ttT 18, ttT 26, ttL 28 (i64 z), ttV 32 (i64 (modI few 5)) M9, ttV 36 (i64 (modI z (IntKind.wrap .i64 ((1 : Int) + (modI few 5))))) M22, ttV 38 (sli b33 0 1 2) M34, .at 40 (2, .val (sli b45 0 (i + 1) (i + 1)), M46)] [0, 1, 2, 7, 8] = some (.normal, [some (sli bb o q c), some (i64 (((mx : Nat) : Int))), some (i64 few), some (sli b45 0 (i + 1) (i + 1)), some (i64 (IntKind.wrap .i64 ((((i : Nat) : Int)) + (1 : Int))))], (Mem.mk M46.blks M46.next M.hide (M46.log ++ M.log)), [qT (decide ((((i : Nat) : Int)) < (((q : Nat) : Int)))), qT (decide ((((i : Nat) : Int)) < (((q : Nat) : Int)))), qT (decide ((((i : Nat) : Int)) < (((q : Nat) : Int)))), qT (decide ((((i : Nat) : Int)) < (((q : Nat) : Int)))), qT (decide ((((i : Nat) : Int)) < (((mx : Nat) : Int)))), .q (.inb (((i : Nat) : Int)) q) (ansB true), qL 3 bb (o + (((i : Nat) : Int) : Int).toNat * 1) (Mem.mk M.blks M.next M.hide []) (i64 z), qT (Nat.blt bb M.next), qC 50 [(i64 few), (i64 5)] (Mem.mk M.blks M.next M.hide []) (i64 (modI few 5)) M9, qC 50 [(i64 z), (i64 (IntKind.wrap .i64 ((1 : Int) + (modI few 5))))] (Mem.mk M9.blks M9.next M.hide M9.log) (i64 (modI z (IntKind.wrap .i64 ((1 : Int) + (modI few 5))))) M22, .eq (abuildSlice Tryz.prog 22 1 [(0, (i64 (modI z (IntKind.wrap .i64 ((1 : Int) + (modI few 5))))))] (Mem.mk M22.blks M22.next M.hide M22.log)) (1, .val (sli b33 0 1 2), M34), .q (.append [22, 22] (sli bw 0 i i) (sli b33 0 1 2) (Mem.mk M34.blks M34.next M.hide M34.log)) (2, .val (sli b45 0 (i + 1) (i + 1)), M46), qT (apartN [bb] M46.log)]) := by kernel_rfl
theorem r18s (bb o q c mx i : Nat) (few z : Int) (bw : Nat) (cs : List Value) {M : Mem} (hM : MemOk M) {M0 : Mem} (X0 : Ext M0 M) (hF : 1 ≤ IntKind.wrap .i64 ((1 : Int) + (modI few 5)) ∧ IntKind.wrap .i64 ((1 : Int) + (modI few 5)) ≤ 5) (hi : i < 1000) (ltbbM : bb < M.next) (hld : aload Tryz.prog 3 ⟨bb, o + i * 1, none⟩ M = some (i64 z)) (dbb : bb ≠ bw) (nbw : M0.next ≤ bw) (gw : M.get bw = some ⟨cs, 3, 1, 0, true⟩) (hcs : cs.length = i * 1) (cc0 : (decide ((((i : Nat) : Int)) < (((q : Nat) : Int)))) = true) (cc1 : (decide ((((i : Nat) : Int)) < (((mx : Nat) : Int)))) = true) : ∃ T1 M' b, Rd Tryz.prog [] (q24.loopAt 0) Tryz.f24.ntmps (fr [(0, (sli bb o q c)), (1, (i64 (((mx : Nat) : Int)))), (2, (i64 few)), (7, (sli bw 0 i i)), (8, (i64 (((i : Nat) : Int))))]) M .normal T1 M' ∧ [0, 1, 2, 7, 8].map T1.get = [some (sli bb o q c), some (i64 (((mx : Nat) : Int))), some (i64 few), some (sli b 0 (i + 1) (i + 1)), some (i64 (IntKind.wrap .i64 ((((i : Nat) : Int)) + (1 : Int))))] ∧ Ext M0 M' ∧ MemOk M' ∧ M0.next ≤ b ∧ M'.get b = some ⟨cs ++ [(i64 (modI z (IntKind.wrap .i64 ((1 : Int) + (modI few 5)))))], 3, 1, 0, true⟩ := by
  obtain ⟨R1, eR2⟩ : ∃ m : Mem, m = Mem.mk M.blks M.next M.hide [] := ⟨_, rfl⟩
  have X3 : Ext (Mem.mk M0.blks M0.next M0.hide []) R1 := by rw [eR2]; exact Ext.aside (X0)
  have lg4 : R1.log = [] := by rw [eR2]
  have nxR1 : R1.next = M.next := by rw [eR2]
  have hM5 : MemOk R1 := by rw [eR2]; exact MemOk.log hM
  have ltbwM : bw < M.next := Mem.lt_of_get gw
  have g6 : R1.get bw = some ⟨cs, 3, 1, 0, true⟩ := by rw [eR2]; exact gw
  obtain ⟨w7, N8, M9, p10, l11, e12, E13, hM14, Q15, G16⟩ := call_t (P := Tryz.prog) (GL := []) (f := 50) hM5 (con50 few 5 (by decide))
  have g17 := E13.old g6
  have ew7 : w7 = (i64 (modI few 5)) := (Option.some.inj Q15.1).symm
  subst ew7
  have nxM9 : M9.next = R1.next := by rw [← e12]; exact Q15.2
  have lg18 : M9.log = [] := by rw [← e12]; exact lg4
  have X19 := X3.trans E13
  obtain ⟨w20, N21, M22, p23, l24, e25, E26, hM27, Q28, G29⟩ := call_t (P := Tryz.prog) (GL := []) (f := 50) hM14 (con50 z (IntKind.wrap .i64 ((1 : Int) + (modI few 5))) (by simp <;> omega))
  have g30 := E26.old g17
  have ew20 : w20 = (i64 (modI z (IntKind.wrap .i64 ((1 : Int) + (modI few 5))))) := (Option.some.inj Q28.1).symm
  subst ew20
  have nxM22 : M22.next = M9.next := by rw [← e25]; exact Q28.2
  have lg31 : M22.log = [] := by rw [← e25]; exact lg18
  have X32 := X19.trans E26
  obtain ⟨b33, M34, eb35, em36, g37, E38, hM39⟩ := new_t hM27 ⟨[(i64 (modI z (IntKind.wrap .i64 ((1 : Int) + (modI few 5)))))], 3, 1, 0, true⟩
  have nb33 : M0.next ≤ b33 := by rw [← eb35]; exact X32.next
  have dbwb33 : bw ≠ b33 := by have := Mem.lt_of_get g30; omega
  have g40 := E38.old g30
  have lg41 : M34.log = [] := by rw [← em36]; exact lg31
  have X42 := X32.trans E38
  obtain ⟨b45, M46, eb47, em48, g49, X44, hM50, kp43⟩ := grow_t X42 nbw hM39 ⟨cs ++ [(i64 (modI z (IntKind.wrap .i64 ((1 : Int) + (modI few 5)))))], 3, 1, 0, true⟩
  have nb45 : M0.next ≤ b45 := by rw [← eb47]; exact X42.next
  have dbwb45 : bw ≠ b45 := by have := Mem.lt_of_get g40; omega
  have db33b45 : b33 ≠ b45 := by have := Mem.lt_of_get g37; omega
  have g51 := (kp43 _ (Ne.symm dbwb33) (Mem.lt_of_get g37)).trans g37
  have lg52 : M46.log = [bw] := by rw [← em48]; exact congrArg (List.cons bw) lg41
  obtain ⟨M53, ef54⟩ : ∃ m : Mem, m = (Mem.mk M46.blks M46.next M46.hide (M46.log ++ M.log)) := ⟨_, rfl⟩
  have X55 : Ext M0 M53 := by rw [ef54]; exact Ext.join (X0) (X44)
  have hM56 : MemOk M53 := by rw [ef54]; exact hM50
  have g57 : M53.get b33 = some ⟨[(i64 (modI z (IntKind.wrap .i64 ((1 : Int) + (modI few 5)))))], 3, 1, 0, true⟩ := by rw [ef54]; exact g51
  have g58 : M53.get b45 = some ⟨cs ++ [(i64 (modI z (IntKind.wrap .i64 ((1 : Int) + (modI few 5)))))], 3, 1, 0, true⟩ := by rw [ef54]; exact g49
  have hraw := r18s_raw bb o q c mx i few z bw cs M M9 M22 b33 M34 b45 M46
  have rw0 : Mem.mk M.blks M.next M.hide [] = R1 := eR2.symm
  have rw1 : Mem.mk M9.blks M9.next M.hide M9.log = M9 := by rw [(show M.hide = M9.hide from ((X0).hide.trans (X19).hide.symm))]
  have rw2 : Mem.mk M22.blks M22.next M.hide M22.log = M22 := by rw [(show M.hide = M22.hide from ((X0).hide.trans (X32).hide.symm))]
  have rw3 : Mem.mk M34.blks M34.next M.hide M34.log = M34 := by rw [(show M.hide = M34.hide from ((X0).hide.trans (X42).hide.symm))]
  have rw4 : Mem.mk M46.blks M46.next M.hide M46.log = M46 := by rw [(show M.hide = M46.hide from ((X0).hide.trans (X44).hide.symm))]
  have rw5 : (Mem.mk M46.blks M46.next M.hide (M46.log ++ M.log)) = (Mem.mk M46.blks M46.next M46.hide (M46.log ++ M.log)) := by rw [(show M.hide = M46.hide from ((X0).hide.trans (X44).hide.symm))]
  have rw6 : (Mem.mk M46.blks M46.next M46.hide (M46.log ++ M.log)) = M53 := ef54.symm
  try rw [rw0] at hraw
  try rw [rw1] at hraw
  try rw [rw2] at hraw
  try rw [rw3] at hraw
  try rw [rw4] at hraw
  try rw [rw5] at hraw
  try rw [rw6] at hraw
  obtain ⟨T1, h1, h2⟩ := Rd.told noNumP mixedP (fun B => specsB_ok (k := []) (hS18_33 B) (fun p hp => by cases hp)) (fun _ _ => rfl) hraw (hk (bT cc0) (hk (bT cc0) (hk (bT cc0) (hk (bT cc0) (hk (bT cc1) (hk (q_inb (by omega) (by have := of_decide_eq_true cc0; omega)) (hk (q_ld (by rw [eR2]; exact hld)) (hk (q_lt ltbbM) (hk (q_call rfl p10 l11 e12) (hk (q_call rfl p23 l24 e25) (hk (q_eq (by rw [← eb35, ← em36]; kernel_rfl) Nat.one_ne_zero) (hk (q_app (by rw [← eb47, ← em48]; exact append_more (w := 1) (by kernel_rfl) (by kernel_rfl) (by kernel_rfl) (y := 8) (by kernel_rfl) (by decide) (by decide) (by omega) g37 rfl rfl rfl g40 hcs rfl rfl rfl rfl) (Nat.succ_ne_zero _)) (hk (q_apart (by rw [lg52]; simp <;> omega)) hn)))))))))))))
  exact ⟨T1, M53, b45, h1, h2, X55, hM56, nb45, g58⟩
theorem r18x_0_raw (a : Option Addr) (q c mx i : Nat) (few : Int) (sa : Option Addr) (sn sc : Nat) (M : Mem)  : oR Tryz.prog [] 40 Tryz.f24 (q24.loopAt 0) [(0, (.slice a q c)), (1, (i64 (((mx : Nat) : Int)))), (2, (i64 few)), (7, (.slice sa sn sc)), (8, (i64 (((i : Nat) : Int))))] M [ttT 5, ttT 10, ttT 12, ttT 14, ttT 17, ttF 18] [7] = some ((.exit 0), [some (.slice sa sn sc)], M, [.ln a q c, qT (decide ((((i : Nat) : Int)) < (((q : Nat) : Int)))), qT (decide ((((i : Nat) : Int)) < (((q : Nat) : Int)))), qT (decide ((((i : Nat) : Int)) < (((q : Nat) : Int)))), qT (decide ((((i : Nat) : Int)) < (((q : Nat) : Int)))), qF (decide ((((i : Nat) : Int)) < (((mx : Nat) : Int))))]) := by kernel_rfl
theorem r18x_0 (a : Option Addr) (q c mx i : Nat) (few : Int) (sa : Option Addr) (sn sc : Nat) {M : Mem} (hln : a.isNone = true → q = 0 ∧ c = 0) (cc0 : (decide ((((i : Nat) : Int)) < (((q : Nat) : Int)))) = true) (cc1 : (decide ((((i : Nat) : Int)) < (((mx : Nat) : Int)))) = false) : ∃ T1, Rd Tryz.prog [] (q24.loopAt 0) Tryz.f24.ntmps (fr [(0, (.slice a q c)), (1, (i64 (((mx : Nat) : Int)))), (2, (i64 few)), (7, (.slice sa sn sc)), (8, (i64 (((i : Nat) : Int))))]) M (.exit 0) T1 M ∧ [7].map T1.get = [some (.slice sa sn sc)] := by
  obtain ⟨T1, h1, h2⟩ := Rd.told noNumP mixedP (specs_none Tryz.prog) (fun _ _ => rfl) (r18x_0_raw a q c mx i few sa sn sc M ) (hk (lN hln) (hk (bT cc0) (hk (bT cc0) (hk (bT cc0) (hk (bT cc0) (hk (bF cc1) hn))))))
  exact ⟨T1, h1, h2⟩
theorem r18x_1_raw (a : Option Addr) (q c mx i : Nat) (few : Int) (sa : Option Addr) (sn sc : Nat) (M : Mem)  : oR Tryz.prog [] 40 Tryz.f24 (q24.loopAt 0) [(0, (.slice a q c)), (1, (i64 (((mx : Nat) : Int)))), (2, (i64 few)), (7, (.slice sa sn sc)), (8, (i64 (((i : Nat) : Int))))] M [ttT 5, ttF 10, ttF 12, ttF 14, ttF 17] [7] = some ((.exit 0), [some (.slice sa sn sc)], M, [.ln a q c, qF (decide ((((i : Nat) : Int)) < (((q : Nat) : Int)))), qF (decide ((((i : Nat) : Int)) < (((q : Nat) : Int)))), qF (decide ((((i : Nat) : Int)) < (((q : Nat) : Int)))), qF (decide ((((i : Nat) : Int)) < (((q : Nat) : Int))))]) := by kernel_rfl
theorem r18x_1 (a : Option Addr) (q c mx i : Nat) (few : Int) (sa : Option Addr) (sn sc : Nat) {M : Mem} (hln : a.isNone = true → q = 0 ∧ c = 0) (cc0 : (decide ((((i : Nat) : Int)) < (((q : Nat) : Int)))) = false) : ∃ T1, Rd Tryz.prog [] (q24.loopAt 0) Tryz.f24.ntmps (fr [(0, (.slice a q c)), (1, (i64 (((mx : Nat) : Int)))), (2, (i64 few)), (7, (.slice sa sn sc)), (8, (i64 (((i : Nat) : Int))))]) M (.exit 0) T1 M ∧ [7].map T1.get = [some (.slice sa sn sc)] := by
  obtain ⟨T1, h1, h2⟩ := Rd.told noNumP mixedP (specs_none Tryz.prog) (fun _ _ => rfl) (r18x_1_raw a q c mx i few sa sn sc M ) (hk (lN hln) (hk (bF cc0) (hk (bF cc0) (hk (bF cc0) (hk (bF cc0) hn)))))
  exact ⟨T1, h1, h2⟩
end Go.Proofs.YtchnlooenomfnaaGreatDoor

set_option linter.unusedVariables false
set_option linter.unusedSimpArgs false
open Go Go.Am Go.Proofs
namespace Go.Proofs.YtchnlooenomfnaaGreatDoor
set_option maxRecDepth 100000
abbrev wF (few : Int) : Int := IntKind.wrap .i64 ((1 : Int) + (modI few 5))
theorem wF_range (few : Int) : 1 ≤ wF few ∧ wF few ≤ 5 := by
  have h := modI_range (x := few) (n := 5) (by decide)
  have h2 : wF few = 1 + modI few 5 := wr_small (by omega) (by omega)
  omega
def wordI (few : Int) (ns : List Int) : List Int := ns.map fun z => modI z (wF few)
theorem wordI_snoc (few : Int) (ns : List Int) (z : Int) : wordI few (ns ++ [z]) = wordI few ns ++ [modI z (wF few)] := by simp [wordI]
def WordN (M0 M : Mem) (S : Value) (l : List Int) (b : Nat) : Prop :=
  (l = [] ∧ S = sln) ∨ (S = sli b 0 l.length l.length ∧ 0 < l.length ∧ M0.next ≤ b ∧ M.get b = some ⟨l.map i64, 3, 1, 0, true⟩)
theorem WordN.shape {M0 M : Mem} {S : Value} {l : List Int} {b : Nat} (h : WordN M0 M S l b) : ∃ a c, S = .slice a l.length c := by
  rcases h with ⟨rfl, h⟩ | ⟨h, _⟩
  · exact ⟨_, _, h⟩
  · exact ⟨_, _, h⟩
theorem WordN.flat {M0 M : Mem} {S : Value} {l : List Int} {b : Nat} (h : WordN M0 M S l b) (hl : l.length ≤ 1000) : FlatAt 1 M S (l.map ([·])) := by
  have hi : (irows (l.map ([·]))).flatten = l.map i64 := by
    clear h hl
    induction l with
    | nil => rfl
    | cons x l ih =>
      have : irows ((x :: l).map ([·])) = [i64 x] :: irows (l.map ([·])) := rfl
      rw [this, List.flatten_cons, ih]; rfl
  refine ⟨?_, fun r hr => by obtain ⟨k, _, rfl⟩ := List.mem_map.1 hr; rfl, by rw [List.length_map]; omega⟩
  rw [List.length_map]
  rcases h with ⟨rfl, rfl⟩ | ⟨rfl, _, _, h7⟩
  · exact .inl ⟨_, rfl, rfl⟩
  · exact .inr ⟨b, 0, l.length, _, [], [], rfl, h7, by simp [hi], rfl, fun r hr => irows_wide (w := 1) (fun r hr => by obtain ⟨k, _, rfl⟩ := List.mem_map.1 hr; rfl) r hr⟩
structure WSt (M0 M : Mem) (S : Value) (l : List Int) : Prop where
  ext : Ext M0 M
  ok : MemOk M
  at_ : ∃ b, WordN M0 M S l b
theorem loop18 {M0 : Mem} {a : Option Addr} {c mx : Nat} {ns : List Int} {few : Int} (hmx : mx ≤ 100) (hs0 : FlatAt 1 M0 (.slice a ns.length c) (ns.map ([·]))) : ∀ (k i : Nat), i + k = mx → i ≤ ns.length → ∀ {M : Mem} {S : Value}, WSt M0 M S (wordI few (ns.take i)) →
    ∃ M' S', LoopR Tryz.prog [] (q24.loopAt 0) Tryz.f24.ntmps (fr [(0, .slice a ns.length c), (1, i64 ((mx : Nat) : Int)), (2, i64 few), (7, S), (8, i64 ((i : Nat) : Int))]) M (.exit 0) (fr [(7, S')]) M' ∧ WSt M0 M' S' (wordI few (ns.take mx)) := by
  have out : ∀ (i : Nat) {M : Mem} {S : Value}, (mx ≤ i ∨ ns.length ≤ i) → i ≤ mx → i ≤ ns.length → WSt M0 M S (wordI few (ns.take i)) →
      ∃ M' S', LoopR Tryz.prog [] (q24.loopAt 0) Tryz.f24.ntmps (fr [(0, .slice a ns.length c), (1, i64 ((mx : Nat) : Int)), (2, i64 few), (7, S), (8, i64 ((i : Nat) : Int))]) M (.exit 0) (fr [(7, S')]) M' ∧ WSt M0 M' S' (wordI few (ns.take mx)) := by
    intro i M S ho hi1 hi2 h
    have ht : ns.take i = ns.take mx := by
      rcases ho with ho | ho
      · rw [show i = mx by omega]
      · rw [List.take_of_length_le ho, List.take_of_length_le (by omega)]
    rw [ht] at h
    obtain ⟨b, hb⟩ := h.at_
    obtain ⟨sa, sc, rfl⟩ := hb.shape
    by_cases hq : i < ns.length
    · obtain ⟨T1, h1, h2⟩ := r18x_0 a ns.length c mx i few sa _ sc (M := M) hs0.ln (decide_eq_true (by omega)) (decide_eq_false (by omega))
      exact ⟨M, _, LoopR.stop h1 (by simp) (TSub.fr (l := [(7, _)]) h2), h⟩
    · obtain ⟨T1, h1, h2⟩ := r18x_1 a ns.length c mx i few sa _ sc (M := M) hs0.ln (decide_eq_false (by omega))
      exact ⟨M, _, LoopR.stop h1 (by simp) (TSub.fr (l := [(7, _)]) h2), h⟩
  intro k
  induction k with
  | zero =>
    intro i hi hin M S h
    exact out i (.inl (by omega)) (by omega) hin h
  | succ k ih =>
    intro i hi hin M S h
    by_cases hq : i < ns.length
    · have hsM := hs0.Ext h.ext
      obtain ⟨bb, o, rfl, hld⟩ := one_at hsM (by omega)
      obtain ⟨_, _, he, hl0⟩ := one_at hs0 (by omega)
      cases he
      have hbb : bb < M0.next := by
        rcases id hs0.at_ with ⟨_, _, h0⟩ | ⟨b', o', c', blk, pre, post, e1, e2, _⟩
        · rw [List.length_map] at h0; omega
        · have : bb = b' := by simp only [Value.slice.injEq, Option.some.injEq, Addr.mk.injEq] at e1; exact e1.1.1
          rw [this]; exact Mem.lt_of_get e2
      have hlt := h.ext.next
      have htake : ns.take (i + 1) = ns.take i ++ [ns[i]] := by rw [List.take_add_one, List.getElem?_eq_getElem hq]; rfl
      have hlen : (wordI few (ns.take i)).length = i := by simp [wordI]; omega
      obtain ⟨b, hb⟩ := h.at_
      rcases hb with ⟨hl, rfl⟩ | ⟨hS, hpos, hnb, hg⟩
      · have hi0 : i = 0 := by rw [hl] at hlen; simpa using hlen.symm
        subst hi0
        obtain ⟨T1, M1, b1, e1, e2, e3, e4, e5, e6⟩ := r18n bb o ns.length c mx 0 few ns[0] h.ok h.ext (wF_range few) (by omega) (by omega) (hld 0 hq) (decide_eq_true (by omega)) (decide_eq_true (by omega))
        rw [wrap_succ (by omega)] at e2
        obtain ⟨M2, S', f1, f2⟩ := ih 1 (by omega) (by omega) (M := M1) (S := sli b1 0 1 1) ⟨e3, e4, b1, .inr ⟨by simp [wordI, Nat.min_eq_left (show 1 ≤ ns.length by omega)], by simp [wordI]; omega, e5, by rw [e6, htake, wordI_snoc, hl]; rfl⟩⟩
        exact ⟨M2, S', LoopR.step e1 (TSub.fr (l := [(0, sli bb o ns.length c), (1, i64 ((mx : Nat) : Int)), (2, i64 few), (7, sli b1 0 1 1), (8, i64 ((0 + 1 : Nat) : Int))]) e2) f1, f2⟩
      · rw [hlen] at hS
        subst hS
        obtain ⟨T1, M1, b1, e1, e2, e3, e4, e5, e6⟩ := r18s bb o ns.length c mx i few ns[i] b _ h.ok h.ext (wF_range few) (by omega) (by omega) (hld i hq) (by omega) hnb hg (by rw [List.length_map, hlen]; omega) (decide_eq_true (by omega)) (decide_eq_true (by omega))
        rw [wrap_succ (by omega)] at e2
        have hlen2 : (wordI few (ns.take (i + 1))).length = i + 1 := by simp [wordI]; omega
        obtain ⟨M2, S', f1, f2⟩ := ih (i + 1) (by omega) (by omega) (M := M1) (S := sli b1 0 (i + 1) (i + 1)) ⟨e3, e4, b1, .inr ⟨by rw [hlen2], by omega, e5, by rw [e6, htake, wordI_snoc, List.map_append]; rfl⟩⟩
        exact ⟨M2, S', LoopR.step e1 (TSub.fr (l := [(0, sli bb o ns.length c), (1, i64 ((mx : Nat) : Int)), (2, i64 few), (7, sli b1 0 (i + 1) (i + 1)), (8, i64 ((i + 1 : Nat) : Int))]) e2) f1, f2⟩
    · exact out i (.inr (by omega)) (by omega) hin h
end Go.Proofs.YtchnlooenomfnaaGreatDoor

set_option linter.unusedVariables false
set_option linter.unusedSimpArgs false
open Go Go.Am Go.Proofs
namespace Go.Proofs.YtchnlooenomfnaaGreatDoor
set_option maxRecDepth 100000
theorem rK18 : Tryz.f24.results = #[.tmp 6] := by kernel_rfl
def Qword : List Value → Mem → Value → Mem → Prop := fun args M v M' => ∃ (L : Value) (ns : List Int) (mx : Nat) (few : Int), args = [L, i64 ((mx : Nat) : Int), i64 few] ∧ FlatAt 1 M L (ns.map ([·])) ∧ ∃ b, WordN M M' v (wordI few (ns.take mx)) b
theorem w18_raw (a : Option Addr) (c : Nat) (ns : List Int) (mx : Nat) (few : Int) (M : Mem) (M1 : Mem) (q5a : Option Addr) (q5c : Nat) : oT Tryz.prog [0] 60 Tryz.f24 q24 [(.slice a ns.length c), i64 ((mx : Nat) : Int), i64 few] M [.blk 6 [0, 1, 2, 7, 8] .normal (fr [(7, (.slice q5a (wordI few (ns.take mx)).length q5c))]) M1] 6 = some (.ret, some (.slice q5a (wordI few (ns.take mx)).length q5c), M1, [.blk 0 (.loop (q24.loopAt 0)) Tryz.f24.ntmps [0, 1, 2, 7, 8] [some (.slice a ns.length c), some (i64 (((mx : Nat) : Int))), some (i64 few), some sln, some (i64 0)] M .normal (fr [(7, (.slice q5a (wordI few (ns.take mx)).length q5c))]) M1]) := by kernel_rfl
theorem con24 (a : Option Addr) (c : Nat) (ns : List Int) (mx : Nat) (few : Int) (hmx : mx ≤ 100) {M : Mem} (hM : MemOk M) (hs : FlatAt 1 M (.slice a ns.length c) (ns.map ([·]))) : ∃ v M', Con Tryz.prog [] 24 Qword [(.slice a ns.length c), i64 ((mx : Nat) : Int), i64 few] M v M' := by
  obtain ⟨M1, S4, hL2, hS3⟩ := loop18 (few := few) hmx hs mx 0 (by omega) (Nat.zero_le _) (M := M) (S := sln) ⟨(Ext.refl M), hM, 0, .inl ⟨rfl, rfl⟩⟩
  obtain ⟨q5b, q5w⟩ := hS3.at_
  obtain ⟨q5a, q5c, eq5⟩ := q5w.shape
  subst eq5
  have hraw := w18_raw a c ns mx few M M1 q5a q5c
  exact ⟨_, _, Ev.told_tmp noNumP mixedP Tryz.func24 q24_ok (by kernel_rfl) rK18 (fun B => specsB_ok (l := []) (fun p hp => by cases hp) (k := [(0, bone (.loop (q24.loopAt 0)) Tryz.f24.ntmps [0, 1, 2, 7, 8] [some (.slice a ns.length c), some (i64 (((mx : Nat) : Int))), some (i64 few), some sln, some (i64 0)] M .normal (fr [(7, (.slice q5a (wordI few (ns.take mx)).length q5c))]) M1)]) (fun p hp => by simp only [List.mem_cons, List.not_mem_nil, or_false] at hp; rcases hp with rfl <;> first | exact BlkOk.loop noNumP mixedP hL2)) (fun _ h => blksF_one h) hraw (hk (q_blk rfl) hn), hS3.ext, _, ns, mx, few, rfl, hs, _, q5w⟩
theorem Qword.val {L v : Value} {ns : List Int} {mx : Nat} {few : Int} {M M' : Mem} (hs : FlatAt 1 M L (ns.map ([·]))) (hq : Qword [L, i64 ((mx : Nat) : Int), i64 few] M v M') : ∃ b, WordN M M' v (wordI few (ns.take mx)) b := by
  obtain ⟨L', ns', mx', few', h1, h2, h3⟩ := hq
  simp only [List.cons.injEq, and_true] at h1
  obtain ⟨rfl, e1, e2⟩ := h1
  have e1 : mx = mx' := by
    have : ((mx : Nat) : Int) = ((mx' : Nat) : Int) := by simpa [i64] using e1
    omega
  have e2 : few = few' := by simpa [i64] using e2
  have e4 := one_inj (hs.unique h2)
  subst e1 e2 e4
  exact h3
theorem irows_one (l : List Int) : (irows (l.map ([·]))).flatten = l.map i64 := by
  induction l with
  | nil => rfl
  | cons x l ih =>
    have : irows ((x :: l).map ([·])) = [i64 x] :: irows (l.map ([·])) := rfl
    rw [this, List.flatten_cons, ih]; rfl
theorem one_wide (l : List Int) : ∀ r ∈ l.map ([·]), r.length = 1 := fun r hr => by obtain ⟨k, _, rfl⟩ := List.mem_map.1 hr; rfl
theorem flat_part {M : Mem} {b w c o n : Nat} {q : Bool} {l u v z : List Int} (hg : M.get b = some ⟨l.map i64, 3, 1, w, q⟩) (e : l = u ++ v ++ z) (ho : o = u.length) (hn : n = v.length) (hl : l.length ≤ 1000) : FlatAt 1 M (.slice (some ⟨b, o, none⟩) n c) (v.map ([·])) := by
  subst e ho hn
  have hv : v.length ≤ 1000 := by simp only [List.length_append] at hl; omega
  refine ⟨?_, one_wide v, by rw [List.length_map]; omega⟩
  rw [List.length_map]
  refine .inr ⟨b, u.length, c, _, u.map i64, z.map i64, rfl, hg, ?_, List.length_map _, fun r hr => irows_wide (w := 1) (one_wide v) r hr⟩
  show (u ++ v ++ z).map i64 = _
  rw [irows_one, List.map_append, List.map_append]
theorem goF_some {l1 : List (List Int)} {st s : Int} {ws : List Int} (h : goL l1 st ws = some s) (hs : noneB s ((l1.length : Nat) : Int) = false) : goF l1 st ws = s := by
  unfold goF
  rw [h]
  simp [hs]
theorem mk_good (x y : Int) (ns : List Int) : (rowsI (nOf x) ns y (nN x)).any (badR (((rowsI (nOf x) ns y (nN x)).length : Nat) : Int)) = false := by
  have h := mk_right x y ns
  simp only [chkB, Bool.and_eq_true, Bool.not_eq_true'] at h
  exact h.2
end Go.Proofs.YtchnlooenomfnaaGreatDoor
