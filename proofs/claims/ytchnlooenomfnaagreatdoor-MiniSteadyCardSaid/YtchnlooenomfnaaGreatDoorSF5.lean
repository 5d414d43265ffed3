/-
  What is proved: MiniSteady: a machine of Make's is steady just if a letter twice is a letter once: for every x, y, every word. For every argument; one laid table (math/bits) is tied by the card.
-/
import Derived.Test.YtchnlooenomfnaaGreatDoorGSF1
set_option linter.unusedVariables false
set_option linter.unusedSimpArgs false
open Go Go.Am Go.Proofs
namespace Go.Proofs.YtchnlooenomfnaaGreatDoor
set_option maxRecDepth 100000
theorem hS10_37 (B : Bd) : ∀ p ∈ ([(37, pick (Con Tryz.prog [] 37 Qgo))] : List (FuncId × (List Value → Mem → Option (Value × Mem)))), SpecOk Tryz.prog [] B p.1 p.2 := (fun p hp => by simp only [List.mem_cons, List.not_mem_nil, or_false] at hp; rcases hp with rfl <;> first | exact Con.ok _)
theorem rdLn_raw (b i j : Nat) (a1 : Option Addr) (c1 : Nat) (a2 : Option Addr) (c2 : Nat) (l1 : List (List Int)) (l2 : List Bool) (M : Mem) (b7 : Nat) (M8 : Mem) (M20 : Mem) (b35 : Nat) (M36 : Mem) (M49 : Mem) : oR Tryz.prog [] 60 Tryz.f10 (q10.loopAt 2) [(9, (pt b 0)), (11, (i64 (((i : Nat) : Int)))), (12, (i64 (((j : Nat) : Int))))] M [ttT 4, ttL 6 (.agg ⟨[(.slice a1 l1.length c1), (.slice a2 l2.length c2)]⟩), ttV 12 (sli b7 0 1 2) M8, ttV 14 (i64 (goF l1 (((i : Nat) : Int)) [((j : Nat) : Int)])) M20, ttL 16 (.agg ⟨[(.slice a1 l1.length c1), (.slice a2 l2.length c2)]⟩), ttV 24 (sli b35 0 2 3) M36, ttV 26 (i64 (goF l1 (((i : Nat) : Int)) [((j : Nat) : Int), ((j : Nat) : Int)])) M49, ttF 29] [9, 11, 12] = some (.normal, [some (pt b 0), some (i64 (((i : Nat) : Int))), some (i64 (IntKind.wrap .i64 ((((j : Nat) : Int)) + (1 : Int))))], (Mem.mk M49.blks M49.next M.hide (M49.log ++ M.log)), [qT (decide ((((j : Nat) : Int)) < (5 : Int))), qL 27 b 0 (Mem.mk M.blks M.next M.hide []) (.agg ⟨[(.slice a1 l1.length c1), (.slice a2 l2.length c2)]⟩), .eq (abuildSlice Tryz.prog 22 1 [(0, (i64 (((j : Nat) : Int))))] (Mem.mk M.blks M.next (hides 4 [⟨2, 0, M.next, M.next⟩, ⟨1, 0, M.next, M.next⟩, ⟨0, 1, M.next, M.next⟩] ++ M.hide) [])) (1, .val (sli b7 0 1 2), M8), qC 37 [(.agg ⟨[(.slice a1 l1.length c1), (.slice a2 l2.length c2)]⟩), (i64 (((i : Nat) : Int))), (sli b7 0 1 2)] (Mem.mk M8.blks M8.next M.hide M8.log) (i64 (goF l1 (((i : Nat) : Int)) [((j : Nat) : Int)])) M20, qL 27 b 0 (Mem.mk M20.blks M20.next (hides 0 [⟨4, 1, M8.next, M20.next⟩, ⟨3, 1, M.next, M8.next⟩, ⟨2, 0, M.next, M.next⟩, ⟨1, 0, M.next, M.next⟩, ⟨0, 1, M.next, M.next⟩] ++ M.hide) M20.log) (.agg ⟨[(.slice a1 l1.length c1), (.slice a2 l2.length c2)]⟩), qT (Nat.blt b M.next), .eq (abuildSlice Tryz.prog 22 2 [(0, (i64 (((j : Nat) : Int)))), (1, (i64 (((j : Nat) : Int))))] (Mem.mk M20.blks M20.next (hides 384 [⟨8, 0, M20.next, M20.next⟩, ⟨7, 0, M20.next, M20.next⟩, ⟨6, 0, M20.next, M20.next⟩, ⟨4, 1, M8.next, M20.next⟩, ⟨3, 1, M.next, M8.next⟩, ⟨2, 0, M.next, M.next⟩, ⟨1, 0, M.next, M.next⟩, ⟨0, 1, M.next, M.next⟩] ++ M.hide) M20.log)) (1, .val (sli b35 0 2 3), M36), qC 37 [(.agg ⟨[(.slice a1 l1.length c1), (.slice a2 l2.length c2)]⟩), (i64 (((i : Nat) : Int))), (sli b35 0 2 3)] (Mem.mk M36.blks M36.next M.hide M36.log) (i64 (goF l1 (((i : Nat) : Int)) [((j : Nat) : Int), ((j : Nat) : Int)])) M49, qT (apartN [b] M49.log), qF (!((goF l1 (((i : Nat) : Int)) [((j : Nat) : Int)]) == (goF l1 (((i : Nat) : Int)) [((j : Nat) : Int), ((j : Nat) : Int)])))]) := by kernel_rfl
theorem rdLn (b i j : Nat) (a1 : Option Addr) (c1 : Nat) (a2 : Option Addr) (c2 : Nat) (l1 : List (List Int)) (l2 : List Bool) {M : Mem} (hM : MemOk M) (hd : DfaAt M (.agg ⟨[(.slice a1 l1.length c1), (.slice a2 l2.length c2)]⟩) l1 l2) (hg : l1.any (badR ((l1.length : Nat) : Int)) = false) (hb : M.get b = some ⟨[(.slice a1 l1.length c1), (.slice a2 l2.length c2)], 27, 2, 0, true⟩) (cc0 : (decide ((((j : Nat) : Int)) < (5 : Int))) = true) (cc1 : ((goF l1 (((i : Nat) : Int)) [((j : Nat) : Int)]) == (goF l1 (((i : Nat) : Int)) [((j : Nat) : Int), ((j : Nat) : Int)])) = true) : ∃ T1 M', Rd Tryz.prog [] (q10.loopAt 2) Tryz.f10.ntmps (fr [(9, (pt b 0)), (11, (i64 (((i : Nat) : Int)))), (12, (i64 (((j : Nat) : Int))))]) M .normal T1 M' ∧ [9, 11, 12].map T1.get = [some (pt b 0), some (i64 (((i : Nat) : Int))), some (i64 (IntKind.wrap .i64 ((((j : Nat) : Int)) + (1 : Int))))] ∧ Ext M M' ∧ MemOk M' := by
  obtain ⟨R1, eR2⟩ : ∃ m : Mem, m = Mem.mk M.blks M.next M.hide [] := ⟨_, rfl⟩
  have X3 : Ext (Mem.mk M.blks M.next M.hide []) R1 := by rw [eR2]; exact Ext.aside ((Ext.refl M))
  have lg4 : R1.log = [] := by rw [eR2]
  have nxR1 : R1.next = M.next := by rw [eR2]
  have hM5 : MemOk R1 := by rw [eR2]; exact MemOk.log hM
  have ltbM : b < M.next := by have h := Mem.lt_of_get hb; exact h
  have g6 : R1.get b = some ⟨[(.slice a1 l1.length c1), (.slice a2 l2.length c2)], 27, 2, 0, true⟩ := by rw [eR2]; exact hb
  obtain ⟨b7, M8, eb9, em10, g11, E12, hM13⟩ := new_t hM5 ⟨[(i64 (((j : Nat) : Int)))], 3, 1, 0, true⟩
  have nb7 : M.next ≤ b7 := by rw [← eb9]; exact X3.next
  have dbb7 : b ≠ b7 := by have := Mem.lt_of_get g6; omega
  have g14 := E12.old g6
  have lg15 : M8.log = [] := by rw [← em10]; exact lg4
  have nx16 := E12.next
  have X17 := X3.trans E12
  obtain ⟨w18, N19, M20, p21, l22, e23, E24, hM25, Q26, G27⟩ := call_t (P := Tryz.prog) (GL := []) (f := 37) hM13 (con37 (aw := some ⟨b7, 0, none⟩) (cw := 2) (ws := [((j : Nat) : Int)]) (((i : Nat) : Int)) (MemOk.log hM13) ((DfaAt.log hd).Ext X17).log (flat_part (l := [((j : Nat) : Int)]) (u := []) (v := [((j : Nat) : Int)]) (z := []) (o := 0) (c := 2) g11 (by simp) rfl rfl (by simp)).log hg)
  have g28 := E24.old g14
  have g29 := E24.old g11
  have ew18 := Qgo.val ((DfaAt.log hd).Ext X17).log (flat_part (l := [((j : Nat) : Int)]) (u := []) (v := [((j : Nat) : Int)]) (z := []) (o := 0) (c := 2) g11 (by simp) rfl rfl (by simp)).log Q26
  subst ew18
  have lg30 : M20.log = [] := by rw [← e23]; exact lg15
  have X31 := X17.trans E24
  have nx32 := E24.next
  have lb33 := Mem.lt_of_get g28
  have lb34 := Mem.lt_of_get g29
  obtain ⟨b35, M36, eb37, em38, g39, E40, hM41⟩ := new_t hM25 ⟨[(i64 (((j : Nat) : Int))), (i64 (((j : Nat) : Int)))], 3, 1, 0, true⟩
  have nb35 : M.next ≤ b35 := by rw [← eb37]; exact X31.next
  have dbb35 : b ≠ b35 := by have := Mem.lt_of_get g28; omega
  have db7b35 : b7 ≠ b35 := by have := Mem.lt_of_get g29; omega
  have g42 := E40.old g28
  have g43 := E40.old g29
  have lg44 : M36.log = [] := by rw [← em38]; exact lg30
  have nx45 := E40.next
  have X46 := X31.trans E40
  obtain ⟨w47, N48, M49, p50, l51, e52, E53, hM54, Q55, G56⟩ := call_t (P := Tryz.prog) (GL := []) (f := 37) hM41 (con37 (aw := some ⟨b35, 0, none⟩) (cw := 3) (ws := [((j : Nat) : Int), ((j : Nat) : Int)]) (((i : Nat) : Int)) (MemOk.log hM41) ((DfaAt.log hd).Ext X46).log (flat_part (l := [((j : Nat) : Int), ((j : Nat) : Int)]) (u := []) (v := [((j : Nat) : Int), ((j : Nat) : Int)]) (z := []) (o := 0) (c := 3) g39 (by simp) rfl rfl (by simp)).log hg)
  have g57 := E53.old g42
  have g58 := E53.old g43
  have g59 := E53.old g39
  have ew47 := Qgo.val ((DfaAt.log hd).Ext X46).log (flat_part (l := [((j : Nat) : Int), ((j : Nat) : Int)]) (u := []) (v := [((j : Nat) : Int), ((j : Nat) : Int)]) (z := []) (o := 0) (c := 3) g39 (by simp) rfl rfl (by simp)).log Q55
  subst ew47
  have lg60 : M49.log = [] := by rw [← e52]; exact lg44
  have X61 := X46.trans E53
  have nx62 := E53.next
  have lb63 := Mem.lt_of_get g57
  have lb64 := Mem.lt_of_get g58
  have lb65 := Mem.lt_of_get g59
  obtain ⟨M66, ef67⟩ : ∃ m : Mem, m = (Mem.mk M49.blks M49.next M49.hide (M49.log ++ M.log)) := ⟨_, rfl⟩
  have X68 : Ext M M66 := by rw [ef67]; exact Ext.join ((Ext.refl M)) (X61)
  have hM69 : MemOk M66 := by rw [ef67]; exact hM54
  have g70 : M66.get b = some ⟨[(.slice a1 l1.length c1), (.slice a2 l2.length c2)], 27, 2, 0, true⟩ := by rw [ef67]; exact g57
  have g71 : M66.get b7 = some ⟨[(i64 (((j : Nat) : Int)))], 3, 1, 0, true⟩ := by rw [ef67]; exact g58
  have g72 : M66.get b35 = some ⟨[(i64 (((j : Nat) : Int))), (i64 (((j : Nat) : Int)))], 3, 1, 0, true⟩ := by rw [ef67]; exact g59
  have hraw := rdLn_raw b i j a1 c1 a2 c2 l1 l2 M b7 M8 M20 b35 (Mem.mk M36.blks M36.next (hides 384 [⟨8, 0, M20.next, M20.next⟩, ⟨7, 0, M20.next, M20.next⟩, ⟨6, 0, M20.next, M20.next⟩, ⟨4, 1, M8.next, M20.next⟩, ⟨3, 1, M.next, M8.next⟩, ⟨2, 0, M.next, M.next⟩, ⟨1, 0, M.next, M.next⟩, ⟨0, 1, M.next, M.next⟩] ++ M.hide) M36.log) M49
  dsimp only at hraw
  have rw0 : Mem.mk M.blks M.next M.hide [] = R1 := eR2.symm
  have rw1 : Mem.mk M.blks M.next (hides 4 [⟨2, 0, M.next, M.next⟩, ⟨1, 0, M.next, M.next⟩, ⟨0, 1, M.next, M.next⟩] ++ M.hide) [] = R1 := by rw [show hides 4 [⟨2, 0, M.next, M.next⟩, ⟨1, 0, M.next, M.next⟩, ⟨0, 1, M.next, M.next⟩] = [] from by simp [hides, Nat.beq_refl, nxR1, show Nat.beq 1 0 = false from rfl, show Nat.beq 2 0 = false from rfl]]; exact eR2.symm
  have rw2 : Mem.mk M8.blks M8.next M.hide M8.log = M8 := by rw [(show M.hide = M8.hide from (((Ext.refl M)).hide.trans (X17).hide.symm))]
  have rw3 : Mem.mk M20.blks M20.next M.hide M20.log = M20 := by rw [(show M.hide = M20.hide from (((Ext.refl M)).hide.trans (X31).hide.symm))]
  have rw4 : Mem.mk M20.blks M20.next (hides 0 [⟨4, 1, M8.next, M20.next⟩, ⟨3, 1, M.next, M8.next⟩, ⟨2, 0, M.next, M.next⟩, ⟨1, 0, M.next, M.next⟩, ⟨0, 1, M.next, M.next⟩] ++ M.hide) M20.log = hidx (hides 0 [⟨4, 1, M8.next, M20.next⟩, ⟨3, 1, M.next, M8.next⟩, ⟨2, 0, M.next, M.next⟩, ⟨1, 0, M.next, M.next⟩, ⟨0, 1, M.next, M.next⟩]) M20 := by rw [(show M.hide = M20.hide from (((Ext.refl M)).hide.trans (X31).hide.symm))]; rfl
  have rw5 : Mem.mk M36.blks M36.next M.hide M36.log = M36 := by rw [(show M.hide = M36.hide from (((Ext.refl M)).hide.trans (X46).hide.symm))]
  have rw6 : Mem.mk M49.blks M49.next M.hide M49.log = M49 := by rw [(show M.hide = M49.hide from (((Ext.refl M)).hide.trans (X61).hide.symm))]
  have rw7 : (Mem.mk M49.blks M49.next M.hide (M49.log ++ M.log)) = (Mem.mk M49.blks M49.next M49.hide (M49.log ++ M.log)) := by rw [(show M.hide = M49.hide from (((Ext.refl M)).hide.trans (X61).hide.symm))]
  have rw8 : (Mem.mk M49.blks M49.next M49.hide (M49.log ++ M.log)) = M66 := ef67.symm
  try rw [rw0] at hraw
  try rw [rw1] at hraw
  try rw [rw2] at hraw
  try rw [rw3] at hraw
  try rw [rw4] at hraw
  try rw [rw5] at hraw
  try rw [rw6] at hraw
  try rw [rw7] at hraw
  try rw [rw8] at hraw
  obtain ⟨T1, h1, h2⟩ := Rd.told noNumP mixedP (fun B => specsB_ok (k := []) (hS10_37 B) (fun p hp => by cases hp)) (fun _ _ => rfl) hraw (hk (bT cc0) (hk (lA ⟨dA27, dS27⟩ g6 rfl) (hk (q_eq (by rw [← eb9, ← em10]; kernel_rfl) Nat.one_ne_zero) (hk (q_call rfl p21 l22 e23) (hk (lA ⟨dA27, dS27⟩ (hidx_get.2 ⟨hides_low (by simp; omega), g28⟩) rfl) (hk (q_lt ltbM) (hk (q_eq (by rw [← eb37, ← em38]; kernel_rfl) Nat.one_ne_zero) (hk (q_call rfl p50 l51 e52) (hk (q_apart (by rw [lg60]; simp <;> omega)) (hk (bF (by rw [cc1]; rfl)) hn))))))))))
  exact ⟨T1, M66, h1, h2, X68, hM69⟩
theorem rdLr_raw (b i j : Nat) (a1 : Option Addr) (c1 : Nat) (a2 : Option Addr) (c2 : Nat) (l1 : List (List Int)) (l2 : List Bool) (M : Mem) (b7 : Nat) (M8 : Mem) (M20 : Mem) (b35 : Nat) (M36 : Mem) (M49 : Mem) : oR Tryz.prog [] 60 Tryz.f10 (q10.loopAt 2) [(9, (pt b 0)), (11, (i64 (((i : Nat) : Int)))), (12, (i64 (((j : Nat) : Int))))] M [ttT 4, ttL 6 (.agg ⟨[(.slice a1 l1.length c1), (.slice a2 l2.length c2)]⟩), ttV 12 (sli b7 0 1 2) M8, ttV 14 (i64 (goF l1 (((i : Nat) : Int)) [((j : Nat) : Int)])) M20, ttL 16 (.agg ⟨[(.slice a1 l1.length c1), (.slice a2 l2.length c2)]⟩), ttV 24 (sli b35 0 2 3) M36, ttV 26 (i64 (goF l1 (((i : Nat) : Int)) [((j : Nat) : Int), ((j : Nat) : Int)])) M49, ttT 29] [8] = some (.ret, [some (.bool true)], (Mem.mk M49.blks M49.next M.hide (M49.log ++ M.log)), [qT (decide ((((j : Nat) : Int)) < (5 : Int))), qL 27 b 0 (Mem.mk M.blks M.next M.hide []) (.agg ⟨[(.slice a1 l1.length c1), (.slice a2 l2.length c2)]⟩), .eq (abuildSlice Tryz.prog 22 1 [(0, (i64 (((j : Nat) : Int))))] (Mem.mk M.blks M.next (hides 4 [⟨2, 0, M.next, M.next⟩, ⟨1, 0, M.next, M.next⟩, ⟨0, 1, M.next, M.next⟩] ++ M.hide) [])) (1, .val (sli b7 0 1 2), M8), qC 37 [(.agg ⟨[(.slice a1 l1.length c1), (.slice a2 l2.length c2)]⟩), (i64 (((i : Nat) : Int))), (sli b7 0 1 2)] (Mem.mk M8.blks M8.next M.hide M8.log) (i64 (goF l1 (((i : Nat) : Int)) [((j : Nat) : Int)])) M20, qL 27 b 0 (Mem.mk M20.blks M20.next (hides 0 [⟨4, 1, M8.next, M20.next⟩, ⟨3, 1, M.next, M8.next⟩, ⟨2, 0, M.next, M.next⟩, ⟨1, 0, M.next, M.next⟩, ⟨0, 1, M.next, M.next⟩] ++ M.hide) M20.log) (.agg ⟨[(.slice a1 l1.length c1), (.slice a2 l2.length c2)]⟩), qT (Nat.blt b M.next), .eq (abuildSlice Tryz.prog 22 2 [(0, (i64 (((j : Nat) : Int)))), (1, (i64 (((j : Nat) : Int))))] (Mem.mk M20.blks M20.next (hides 384 [⟨8, 0, M20.next, M20.next⟩, ⟨7, 0, M20.next, M20.next⟩, ⟨6, 0, M20.next, M20.next⟩, ⟨4, 1, M8.next, M20.next⟩, ⟨3, 1, M.next, M8.next⟩, ⟨2, 0, M.next, M.next⟩, ⟨1, 0, M.next, M.next⟩, ⟨0, 1, M.next, M.next⟩] ++ M.hide) M20.log)) (1, .val (sli b35 0 2 3), M36), qC 37 [(.agg ⟨[(.slice a1 l1.length c1), (.slice a2 l2.length c2)]⟩), (i64 (((i : Nat) : Int))), (sli b35 0 2 3)] (Mem.mk M36.blks M36.next M.hide M36.log) (i64 (goF l1 (((i : Nat) : Int)) [((j : Nat) : Int), ((j : Nat) : Int)])) M49, qT (apartN [b] M49.log), qT (!((goF l1 (((i : Nat) : Int)) [((j : Nat) : Int)]) == (goF l1 (((i : Nat) : Int)) [((j : Nat) : Int), ((j : Nat) : Int)])))]) := by kernel_rfl
theorem rdLr (b i j : Nat) (a1 : Option Addr) (c1 : Nat) (a2 : Option Addr) (c2 : Nat) (l1 : List (List Int)) (l2 : List Bool) {M : Mem} (hM : MemOk M) (hd : DfaAt M (.agg ⟨[(.slice a1 l1.length c1), (.slice a2 l2.length c2)]⟩) l1 l2) (hg : l1.any (badR ((l1.length : Nat) : Int)) = false) (hb : M.get b = some ⟨[(.slice a1 l1.length c1), (.slice a2 l2.length c2)], 27, 2, 0, true⟩) (cc0 : (decide ((((j : Nat) : Int)) < (5 : Int))) = true) (cc1 : ((goF l1 (((i : Nat) : Int)) [((j : Nat) : Int)]) == (goF l1 (((i : Nat) : Int)) [((j : Nat) : Int), ((j : Nat) : Int)])) = false) : ∃ T1 M', Rd Tryz.prog [] (q10.loopAt 2) Tryz.f10.ntmps (fr [(9, (pt b 0)), (11, (i64 (((i : Nat) : Int)))), (12, (i64 (((j : Nat) : Int))))]) M .ret T1 M' ∧ [8].map T1.get = [some (.bool true)] ∧ Ext M M' ∧ MemOk M' := by
  obtain ⟨R1, eR2⟩ : ∃ m : Mem, m = Mem.mk M.blks M.next M.hide [] := ⟨_, rfl⟩
  have X3 : Ext (Mem.mk M.blks M.next M.hide []) R1 := by rw [eR2]; exact Ext.aside ((Ext.refl M))
  have lg4 : R1.log = [] := by rw [eR2]
  have nxR1 : R1.next = M.next := by rw [eR2]
  have hM5 : MemOk R1 := by rw [eR2]; exact MemOk.log hM
  have ltbM : b < M.next := by have h := Mem.lt_of_get hb; exact h
  have g6 : R1.get b = some ⟨[(.slice a1 l1.length c1), (.slice a2 l2.length c2)], 27, 2, 0, true⟩ := by rw [eR2]; exact hb
  obtain ⟨b7, M8, eb9, em10, g11, E12, hM13⟩ := new_t hM5 ⟨[(i64 (((j : Nat) : Int)))], 3, 1, 0, true⟩
  have nb7 : M.next ≤ b7 := by rw [← eb9]; exact X3.next
  have dbb7 : b ≠ b7 := by have := Mem.lt_of_get g6; omega
  have g14 := E12.old g6
  have lg15 : M8.log = [] := by rw [← em10]; exact lg4
  have nx16 := E12.next
  have X17 := X3.trans E12
  obtain ⟨w18, N19, M20, p21, l22, e23, E24, hM25, Q26, G27⟩ := call_t (P := Tryz.prog) (GL := []) (f := 37) hM13 (con37 (aw := some ⟨b7, 0, none⟩) (cw := 2) (ws := [((j : Nat) : Int)]) (((i : Nat) : Int)) (MemOk.log hM13) ((DfaAt.log hd).Ext X17).log (flat_part (l := [((j : Nat) : Int)]) (u := []) (v := [((j : Nat) : Int)]) (z := []) (o := 0) (c := 2) g11 (by simp) rfl rfl (by simp)).log hg)
  have g28 := E24.old g14
  have g29 := E24.old g11
  have ew18 := Qgo.val ((DfaAt.log hd).Ext X17).log (flat_part (l := [((j : Nat) : Int)]) (u := []) (v := [((j : Nat) : Int)]) (z := []) (o := 0) (c := 2) g11 (by simp) rfl rfl (by simp)).log Q26
  subst ew18
  have lg30 : M20.log = [] := by rw [← e23]; exact lg15
  have X31 := X17.trans E24
  have nx32 := E24.next
  have lb33 := Mem.lt_of_get g28
  have lb34 := Mem.lt_of_get g29
  obtain ⟨b35, M36, eb37, em38, g39, E40, hM41⟩ := new_t hM25 ⟨[(i64 (((j : Nat) : Int))), (i64 (((j : Nat) : Int)))], 3, 1, 0, true⟩
  have nb35 : M.next ≤ b35 := by rw [← eb37]; exact X31.next
  have dbb35 : b ≠ b35 := by have := Mem.lt_of_get g28; omega
  have db7b35 : b7 ≠ b35 := by have := Mem.lt_of_get g29; omega
  have g42 := E40.old g28
  have g43 := E40.old g29
  have lg44 : M36.log = [] := by rw [← em38]; exact lg30
  have nx45 := E40.next
  have X46 := X31.trans E40
  obtain ⟨w47, N48, M49, p50, l51, e52, E53, hM54, Q55, G56⟩ := call_t (P := Tryz.prog) (GL := []) (f := 37) hM41 (con37 (aw := some ⟨b35, 0, none⟩) (cw := 3) (ws := [((j : Nat) : Int), ((j : Nat) : Int)]) (((i : Nat) : Int)) (MemOk.log hM41) ((DfaAt.log hd).Ext X46).log (flat_part (l := [((j : Nat) : Int), ((j : Nat) : Int)]) (u := []) (v := [((j : Nat) : Int), ((j : Nat) : Int)]) (z := []) (o := 0) (c := 3) g39 (by simp) rfl rfl (by simp)).log hg)
  have g57 := E53.old g42
  have g58 := E53.old g43
  have g59 := E53.old g39
  have ew47 := Qgo.val ((DfaAt.log hd).Ext X46).log (flat_part (l := [((j : Nat) : Int), ((j : Nat) : Int)]) (u := []) (v := [((j : Nat) : Int), ((j : Nat) : Int)]) (z := []) (o := 0) (c := 3) g39 (by simp) rfl rfl (by simp)).log Q55
  subst ew47
  have lg60 : M49.log = [] := by rw [← e52]; exact lg44
  have X61 := X46.trans E53
  have nx62 := E53.next
  have lb63 := Mem.lt_of_get g57
  have lb64 := Mem.lt_of_get g58
  have lb65 := Mem.lt_of_get g59
  obtain ⟨M66, ef67⟩ : ∃ m : Mem, m = (Mem.mk M49.blks M49.next M49.hide (M49.log ++ M.log)) := ⟨_, rfl⟩
  have X68 : Ext M M66 := by rw [ef67]; exact Ext.join ((Ext.refl M)) (X61)
  have hM69 : MemOk M66 := by rw [ef67]; exact hM54
  have g70 : M66.get b = some ⟨[(.slice a1 l1.length c1), (.slice a2 l2.length c2)], 27, 2, 0, true⟩ := by rw [ef67]; exact g57
  have g71 : M66.get b7 = some ⟨[(i64 (((j : Nat) : Int)))], 3, 1, 0, true⟩ := by rw [ef67]; exact g58
  have g72 : M66.get b35 = some ⟨[(i64 (((j : Nat) : Int))), (i64 (((j : Nat) : Int)))], 3, 1, 0, true⟩ := by rw [ef67]; exact g59
  have hraw := rdLr_raw b i j a1 c1 a2 c2 l1 l2 M b7 M8 M20 b35 (Mem.mk M36.blks M36.next (hides 384 [⟨8, 0, M20.next, M20.next⟩, ⟨7, 0, M20.next, M20.next⟩, ⟨6, 0, M20.next, M20.next⟩, ⟨4, 1, M8.next, M20.next⟩, ⟨3, 1, M.next, M8.next⟩, ⟨2, 0, M.next, M.next⟩, ⟨1, 0, M.next, M.next⟩, ⟨0, 1, M.next, M.next⟩] ++ M.hide) M36.log) M49
  dsimp only at hraw
  have rw0 : Mem.mk M.blks M.next M.hide [] = R1 := eR2.symm
  have rw1 : Mem.mk M.blks M.next (hides 4 [⟨2, 0, M.next, M.next⟩, ⟨1, 0, M.next, M.next⟩, ⟨0, 1, M.next, M.next⟩] ++ M.hide) [] = R1 := by rw [show hides 4 [⟨2, 0, M.next, M.next⟩, ⟨1, 0, M.next, M.next⟩, ⟨0, 1, M.next, M.next⟩] = [] from by simp [hides, Nat.beq_refl, nxR1, show Nat.beq 1 0 = false from rfl, show Nat.beq 2 0 = false from rfl]]; exact eR2.symm
  have rw2 : Mem.mk M8.blks M8.next M.hide M8.log = M8 := by rw [(show M.hide = M8.hide from (((Ext.refl M)).hide.trans (X17).hide.symm))]
  have rw3 : Mem.mk M20.blks M20.next M.hide M20.log = M20 := by rw [(show M.hide = M20.hide from (((Ext.refl M)).hide.trans (X31).hide.symm))]
  have rw4 : Mem.mk M20.blks M20.next (hides 0 [⟨4, 1, M8.next, M20.next⟩, ⟨3, 1, M.next, M8.next⟩, ⟨2, 0, M.next, M.next⟩, ⟨1, 0, M.next, M.next⟩, ⟨0, 1, M.next, M.next⟩] ++ M.hide) M20.log = hidx (hides 0 [⟨4, 1, M8.next, M20.next⟩, ⟨3, 1, M.next, M8.next⟩, ⟨2, 0, M.next, M.next⟩, ⟨1, 0, M.next, M.next⟩, ⟨0, 1, M.next, M.next⟩]) M20 := by rw [(show M.hide = M20.hide from (((Ext.refl M)).hide.trans (X31).hide.symm))]; rfl
  have rw5 : Mem.mk M36.blks M36.next M.hide M36.log = M36 := by rw [(show M.hide = M36.hide from (((Ext.refl M)).hide.trans (X46).hide.symm))]
  have rw6 : Mem.mk M49.blks M49.next M.hide M49.log = M49 := by rw [(show M.hide = M49.hide from (((Ext.refl M)).hide.trans (X61).hide.symm))]
  have rw7 : (Mem.mk M49.blks M49.next M.hide (M49.log ++ M.log)) = (Mem.mk M49.blks M49.next M49.hide (M49.log ++ M.log)) := by rw [(show M.hide = M49.hide from (((Ext.refl M)).hide.trans (X61).hide.symm))]
  have rw8 : (Mem.mk M49.blks M49.next M49.hide (M49.log ++ M.log)) = M66 := ef67.symm
  try rw [rw0] at hraw
  try rw [rw1] at hraw
  try rw [rw2] at hraw
  try rw [rw3] at hraw
  try rw [rw4] at hraw
  try rw [rw5] at hraw
  try rw [rw6] at hraw
  try rw [rw7] at hraw
  try rw [rw8] at hraw
  obtain ⟨T1, h1, h2⟩ := Rd.told noNumP mixedP (fun B => specsB_ok (k := []) (hS10_37 B) (fun p hp => by cases hp)) (fun _ _ => rfl) hraw (hk (bT cc0) (hk (lA ⟨dA27, dS27⟩ g6 rfl) (hk (q_eq (by rw [← eb9, ← em10]; kernel_rfl) Nat.one_ne_zero) (hk (q_call rfl p21 l22 e23) (hk (lA ⟨dA27, dS27⟩ (hidx_get.2 ⟨hides_low (by simp; omega), g28⟩) rfl) (hk (q_lt ltbM) (hk (q_eq (by rw [← eb37, ← em38]; kernel_rfl) Nat.one_ne_zero) (hk (q_call rfl p50 l51 e52) (hk (q_apart (by rw [lg60]; simp <;> omega)) (hk (bT (by rw [cc1]; rfl)) hn))))))))))
  exact ⟨T1, M66, h1, h2, X68, hM69⟩
theorem rdLx_raw (b i j : Nat) (a1 : Option Addr) (c1 : Nat) (a2 : Option Addr) (c2 : Nat) (l1 : List (List Int)) (l2 : List Bool) (M : Mem)  : oR Tryz.prog [] 60 Tryz.f10 (q10.loopAt 2) [(9, (pt b 0)), (11, (i64 (((i : Nat) : Int)))), (12, (i64 (((j : Nat) : Int))))] M [ttF 4] [9, 11] = some ((.exit 2), [some (pt b 0), some (i64 (((i : Nat) : Int)))], M, [qF (decide ((((j : Nat) : Int)) < (5 : Int)))]) := by kernel_rfl
theorem rdLx (b i j : Nat) (a1 : Option Addr) (c1 : Nat) (a2 : Option Addr) (c2 : Nat) (l1 : List (List Int)) (l2 : List Bool) {M : Mem} (hM : MemOk M) (hd : DfaAt M (.agg ⟨[(.slice a1 l1.length c1), (.slice a2 l2.length c2)]⟩) l1 l2) (hg : l1.any (badR ((l1.length : Nat) : Int)) = false) (hb : M.get b = some ⟨[(.slice a1 l1.length c1), (.slice a2 l2.length c2)], 27, 2, 0, true⟩) (cc0 : (decide ((((j : Nat) : Int)) < (5 : Int))) = false) : ∃ T1 M', Rd Tryz.prog [] (q10.loopAt 2) Tryz.f10.ntmps (fr [(9, (pt b 0)), (11, (i64 (((i : Nat) : Int)))), (12, (i64 (((j : Nat) : Int))))]) M (.exit 2) T1 M' ∧ [9, 11].map T1.get = [some (pt b 0), some (i64 (((i : Nat) : Int)))] ∧ Ext M M' ∧ MemOk M' := by
  have hraw := rdLx_raw b i j a1 c1 a2 c2 l1 l2 M 
  obtain ⟨T1, h1, h2⟩ := Rd.told noNumP mixedP (specs_none Tryz.prog) (fun _ _ => rfl) hraw (hk (bF cc0) hn)
  exact ⟨T1, M, h1, h2, (Ext.refl M), hM⟩
end Go.Proofs.YtchnlooenomfnaaGreatDoor
