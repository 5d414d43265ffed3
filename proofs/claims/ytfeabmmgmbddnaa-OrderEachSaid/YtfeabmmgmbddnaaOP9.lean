/-
  Package order: each of its laws for every argument; no conditions. The last text states which.
-/
import Derived.Test.YtfeabmmgmbddnaaOP8
open Go Go.Am Go.Proofs
namespace Go.Proofs.Ytfeabmmgmbddnaa
set_option maxRecDepth 100000
set_option linter.unusedVariables false
set_option linter.unusedSimpArgs false
theorem dC44 : (Try.prog.underlying 44).map isAggD = some false := by kernel_rfl
theorem dA46 : (Try.prog.underlying 46).map isAggD = some true := by kernel_rfl
theorem dS46 : (Try.prog.info? 46).map (·.size) = some 2 := by kernel_rfl
theorem ones_0 (M : Mem) : (Go.Am.qrun Try.prog [] noSpecs qts 1000 28 [.int .u64 0] M) = some (i64 0, M) := by kernel_rfl
theorem ones_1 (M : Mem) : (Go.Am.qrun Try.prog [] noSpecs qts 1000 28 [.int .u64 1] M) = some (i64 1, M) := by kernel_rfl
theorem ones_2 (M : Mem) : (Go.Am.qrun Try.prog [] noSpecs qts 1000 28 [.int .u64 2] M) = some (i64 1, M) := by kernel_rfl
theorem ones_3 (M : Mem) : (Go.Am.qrun Try.prog [] noSpecs qts 1000 28 [.int .u64 3] M) = some (i64 2, M) := by kernel_rfl
theorem ones_4 (M : Mem) : (Go.Am.qrun Try.prog [] noSpecs qts 1000 28 [.int .u64 4] M) = some (i64 1, M) := by kernel_rfl
theorem ones_5 (M : Mem) : (Go.Am.qrun Try.prog [] noSpecs qts 1000 28 [.int .u64 5] M) = some (i64 2, M) := by kernel_rfl
theorem ones_6 (M : Mem) : (Go.Am.qrun Try.prog [] noSpecs qts 1000 28 [.int .u64 6] M) = some (i64 2, M) := by kernel_rfl
theorem ones_7 (M : Mem) : (Go.Am.qrun Try.prog [] noSpecs qts 1000 28 [.int .u64 7] M) = some (i64 3, M) := by kernel_rfl
theorem ones_8 (M : Mem) : (Go.Am.qrun Try.prog [] noSpecs qts 1000 28 [.int .u64 8] M) = some (i64 1, M) := by kernel_rfl
theorem ones_9 (M : Mem) : (Go.Am.qrun Try.prog [] noSpecs qts 1000 28 [.int .u64 9] M) = some (i64 2, M) := by kernel_rfl
theorem ones_10 (M : Mem) : (Go.Am.qrun Try.prog [] noSpecs qts 1000 28 [.int .u64 10] M) = some (i64 2, M) := by kernel_rfl
theorem ones_11 (M : Mem) : (Go.Am.qrun Try.prog [] noSpecs qts 1000 28 [.int .u64 11] M) = some (i64 3, M) := by kernel_rfl
theorem ones_12 (M : Mem) : (Go.Am.qrun Try.prog [] noSpecs qts 1000 28 [.int .u64 12] M) = some (i64 2, M) := by kernel_rfl
theorem ones_13 (M : Mem) : (Go.Am.qrun Try.prog [] noSpecs qts 1000 28 [.int .u64 13] M) = some (i64 3, M) := by kernel_rfl
theorem ones_14 (M : Mem) : (Go.Am.qrun Try.prog [] noSpecs qts 1000 28 [.int .u64 14] M) = some (i64 3, M) := by kernel_rfl
theorem ones_15 (M : Mem) : (Go.Am.qrun Try.prog [] noSpecs qts 1000 28 [.int .u64 15] M) = some (i64 4, M) := by kernel_rfl
theorem ones_16 (M : Mem) : (Go.Am.qrun Try.prog [] noSpecs qts 1000 28 [.int .u64 16] M) = some (i64 1, M) := by kernel_rfl
theorem ones_17 (M : Mem) : (Go.Am.qrun Try.prog [] noSpecs qts 1000 28 [.int .u64 17] M) = some (i64 2, M) := by kernel_rfl
theorem ones_18 (M : Mem) : (Go.Am.qrun Try.prog [] noSpecs qts 1000 28 [.int .u64 18] M) = some (i64 2, M) := by kernel_rfl
theorem ones_19 (M : Mem) : (Go.Am.qrun Try.prog [] noSpecs qts 1000 28 [.int .u64 19] M) = some (i64 3, M) := by kernel_rfl
theorem ones_20 (M : Mem) : (Go.Am.qrun Try.prog [] noSpecs qts 1000 28 [.int .u64 20] M) = some (i64 2, M) := by kernel_rfl
theorem ones_21 (M : Mem) : (Go.Am.qrun Try.prog [] noSpecs qts 1000 28 [.int .u64 21] M) = some (i64 3, M) := by kernel_rfl
theorem ones_22 (M : Mem) : (Go.Am.qrun Try.prog [] noSpecs qts 1000 28 [.int .u64 22] M) = some (i64 3, M) := by kernel_rfl
theorem ones_23 (M : Mem) : (Go.Am.qrun Try.prog [] noSpecs qts 1000 28 [.int .u64 23] M) = some (i64 4, M) := by kernel_rfl
theorem ones_24 (M : Mem) : (Go.Am.qrun Try.prog [] noSpecs qts 1000 28 [.int .u64 24] M) = some (i64 2, M) := by kernel_rfl
theorem ones_25 (M : Mem) : (Go.Am.qrun Try.prog [] noSpecs qts 1000 28 [.int .u64 25] M) = some (i64 3, M) := by kernel_rfl
theorem ones_26 (M : Mem) : (Go.Am.qrun Try.prog [] noSpecs qts 1000 28 [.int .u64 26] M) = some (i64 3, M) := by kernel_rfl
theorem ones_27 (M : Mem) : (Go.Am.qrun Try.prog [] noSpecs qts 1000 28 [.int .u64 27] M) = some (i64 4, M) := by kernel_rfl
theorem ones_28 (M : Mem) : (Go.Am.qrun Try.prog [] noSpecs qts 1000 28 [.int .u64 28] M) = some (i64 3, M) := by kernel_rfl
theorem ones_29 (M : Mem) : (Go.Am.qrun Try.prog [] noSpecs qts 1000 28 [.int .u64 29] M) = some (i64 4, M) := by kernel_rfl
theorem ones_30 (M : Mem) : (Go.Am.qrun Try.prog [] noSpecs qts 1000 28 [.int .u64 30] M) = some (i64 4, M) := by kernel_rfl
theorem ones_31 (M : Mem) : (Go.Am.qrun Try.prog [] noSpecs qts 1000 28 [.int .u64 31] M) = some (i64 5, M) := by kernel_rfl
abbrev Q28 := FC (asP (as1 pU) fun k => k < 32) (plain pI) (fun k => ((popN k : Nat) : Int))
theorem con28 {k : Nat} {lv : List Value} {M : Mem} (hM : MemOk M) (h : (asP (as1 pU) fun k => k < 32) k lv M) : ∃ v M', Con Try.prog [] 28 Q28 lv M v M' := by
  refine FC.con h ?_
  obtain ⟨⟨g0, rfl, rfl⟩, hk⟩ := h
  have key : ∀ c, Go.Am.qrun Try.prog [] noSpecs qts 1000 28 [.int .u64 ((k : Nat) : Int)] M = some (i64 c, M) → c = ((popN k : Nat) : Int) → ∃ v M', Ev Try.prog [] 28 [.int .u64 ((k : Nat) : Int)] M v M' ∧ Ext M M' ∧ plain pI ((popN k : Nat) : Int) M.next v M' := fun c hc e => by
    subst e
    exact ⟨_, M, Ev.of_spec (fun B => SpecOk.qrun noNumP mixedP qokS (fun _ => rfl) (fun _ => SpecsOk.none) 1000 28) hc, Ext.refl M, rfl⟩
  have hc : k = 0 ∨ k = 1 ∨ k = 2 ∨ k = 3 ∨ k = 4 ∨ k = 5 ∨ k = 6 ∨ k = 7 ∨ k = 8 ∨ k = 9 ∨ k = 10 ∨ k = 11 ∨ k = 12 ∨ k = 13 ∨ k = 14 ∨ k = 15 ∨ k = 16 ∨ k = 17 ∨ k = 18 ∨ k = 19 ∨ k = 20 ∨ k = 21 ∨ k = 22 ∨ k = 23 ∨ k = 24 ∨ k = 25 ∨ k = 26 ∨ k = 27 ∨ k = 28 ∨ k = 29 ∨ k = 30 ∨ k = 31 := by omega
  rcases hc with rfl | rfl | rfl | rfl | rfl | rfl | rfl | rfl | rfl | rfl | rfl | rfl | rfl | rfl | rfl | rfl | rfl | rfl | rfl | rfl | rfl | rfl | rfl | rfl | rfl | rfl | rfl | rfl | rfl | rfl | rfl | rfl
  · exact key _ (ones_0 M) rfl
  · exact key _ (ones_1 M) rfl
  · exact key _ (ones_2 M) rfl
  · exact key _ (ones_3 M) rfl
  · exact key _ (ones_4 M) rfl
  · exact key _ (ones_5 M) rfl
  · exact key _ (ones_6 M) rfl
  · exact key _ (ones_7 M) rfl
  · exact key _ (ones_8 M) rfl
  · exact key _ (ones_9 M) rfl
  · exact key _ (ones_10 M) rfl
  · exact key _ (ones_11 M) rfl
  · exact key _ (ones_12 M) rfl
  · exact key _ (ones_13 M) rfl
  · exact key _ (ones_14 M) rfl
  · exact key _ (ones_15 M) rfl
  · exact key _ (ones_16 M) rfl
  · exact key _ (ones_17 M) rfl
  · exact key _ (ones_18 M) rfl
  · exact key _ (ones_19 M) rfl
  · exact key _ (ones_20 M) rfl
  · exact key _ (ones_21 M) rfl
  · exact key _ (ones_22 M) rfl
  · exact key _ (ones_23 M) rfl
  · exact key _ (ones_24 M) rfl
  · exact key _ (ones_25 M) rfl
  · exact key _ (ones_26 M) rfl
  · exact key _ (ones_27 M) rfl
  · exact key _ (ones_28 M) rfl
  · exact key _ (ones_29 M) rfl
  · exact key _ (ones_30 M) rfl
  · exact key _ (ones_31 M) rfl
theorem rK21 : Try.f21.results = #[.tmp 4] := by kernel_rfl
theorem hS21_28_29 (B : Bd) : ∀ p ∈ ([(28, pick (Con Try.prog [] 28 Q28)), (29, pick (Con Try.prog [] 29 Q29))] : List (FuncId × (List Value → Mem → Option (Value × Mem)))), SpecOk Try.prog [] B p.1 p.2 := (fun p hp => by simp only [List.mem_cons, List.not_mem_nil, or_false] at hp; rcases hp with rfl | rfl <;> first | exact Con.ok _)
theorem w21_raw (n ab : Nat) (ad : AdjM) (v : Int) (M : Mem) (b1 : Nat) (M2 : Mem) (M12 : Mem) (M24 : Mem) : oT Try.prog [] 60 Try.f21 q21 [(.agg ⟨[(i64 (((n : Nat) : Int))), (pt ab 0)]⟩), (i64 v)] M [ttV 1 (pt b1 0) M2, ttL 7 (pt ab 0), ttV 11 (i64 (modesI ad v)) M12, ttV 15 (i64 (((popN (modesI ad v).toNat : Nat) : Int))) M24] 4 = some (.ret, some (.bool (decide ((((popN (modesI ad v).toNat : Nat) : Int)) ≥ (2 : Int)))), M24, [.eq (abox Try.prog 46 (.agg ⟨[(i64 (((n : Nat) : Int))), (pt ab 0)]⟩) M) (1, .val (pt b1 0), M2), qL 44 b1 1 M2 (pt ab 0), qC 29 [(pt ab 0), (i64 v)] M2 (i64 (modesI ad v)) M12, qC 28 [(.int .u64 (IntKind.wrap .u64 (modesI ad v)))] M12 (i64 (((popN (modesI ad v).toNat : Nat) : Int))) M24]) := by kernel_rfl
theorem w21 (n ab : Nat) (ad : AdjM) (v : Int) {M : Mem} (hM : MemOk M) (hadj : pAdj 59 ad (pt ab 0) M) (hok : okA ad) : ∃ v_ M', Ev Try.prog [] 21 [(.agg ⟨[(i64 (((n : Nat) : Int))), (pt ab 0)]⟩), (i64 v)] M v_ M' ∧ Ext M M' ∧ MemOk M' ∧ v_ = .bool (linkB ad v) := by
  obtain ⟨b1, M2, eb3, em4, g5, E6, hM7⟩ := new_t hM ⟨[(i64 (((n : Nat) : Int))), (pt ab 0)], 46, 2, 0, true⟩
  have nb1 : M.next ≤ b1 := by rw [← eb3]; exact (Ext.refl M).next
  have X9 := (Ext.refl M).trans E6
  obtain ⟨w10, N11, M12, p13, l14, e15, E16, hM17, F18⟩ := call_fc (x := (ad, v)) hM7 con29 (⟨⟨_, _, rfl, (AP.Ext (R := pAdj 59) hadj X9), rfl⟩, hok⟩)
  have ew10 : w10 = (i64 (modesI ad v)) := F18
  subst ew10
  have X21 := X9.trans E16
  obtain ⟨w22, N23, M24, p25, l26, e27, E28, hM29, F30⟩ := call_fc (x := (modesI ad v).toNat) hM17 con28 (⟨⟨_, rfl, congrArg (Value.int .u64) (wrapU (modesI_range hok v))⟩, by have := modesI_range hok v; omega⟩)
  have ew22 : w22 = (i64 (((popN (modesI ad v).toNat : Nat) : Int))) := F30
  subst ew22
  have X33 := X21.trans E28
  have hraw := w21_raw n ab ad v M  b1 M2 M12 M24
  exact ⟨(.bool (decide ((((popN (modesI ad v).toNat : Nat) : Int)) ≥ (2 : Int)))), M24, Ev.told_tmp noNumP mixedP Try.func21 q21_ok (by kernel_rfl) rK21 (fun B => specsB_ok (k := []) (hS21_28_29 B) (fun p hp => by cases hp)) (fun _ _ => rfl) hraw (hk (q_eq (by rw [← eb3, ← em4]; kernel_rfl) Nat.one_ne_zero) (hk (lC dC44 g5 rfl) (hk (q_call rfl p13 l14 e15) (hk (q_call rfl p25 l26 e27) hn)))), X33, hM29, rfl⟩
abbrev Q21 := FC (asP (as2 (pSight 59) pI) fun x => okA x.1.2) (plain pB) (fun x => linkB x.1.2 x.2)
theorem con21 {x : (Nat × AdjM) × Int} {lv : List Value} {M : Mem} (hM : MemOk M) (h : (asP (as2 (pSight 59) pI) fun x : (Nat × AdjM) × Int => okA x.1.2) x lv M) : ∃ v M', Con Try.prog [] 21 Q21 lv M v M' := by
  refine FC.con h ?_
  obtain ⟨⟨g0, g1, rfl, k0, k1⟩, hok⟩ := h
  obtain ⟨⟨n, ad⟩, v⟩ := x
  obtain rfl := k1
  obtain ⟨p, rfl, hadj⟩ := k0
  obtain ⟨ab, o, i_, t, s, rfl, gab, hout, hinn, hto, hset⟩ := id hadj
  obtain ⟨v', M', h1, h2, _, h3⟩ := w21 n ab ad v hM hadj hok
  exact ⟨v', M', h1, h2, h3⟩
theorem rK25 : Try.f25.results = #[.tmp 4] := by kernel_rfl
theorem hS25_32_33 (B : Bd) : ∀ p ∈ ([(32, pick (Con Try.prog [] 32 Q32)), (33, pick (Con Try.prog [] 33 Q33))] : List (FuncId × (List Value → Mem → Option (Value × Mem)))), SpecOk Try.prog [] B p.1 p.2 := (fun p hp => by simp only [List.mem_cons, List.not_mem_nil, or_false] at hp; rcases hp with rfl | rfl <;> first | exact Con.ok _)
theorem w25_raw (n ab : Nat) (ad : AdjM) (v : Int) (M : Mem) (b1 : Nat) (M2 : Mem) (a16 : Option Addr) (c17 : Nat) (M21 : Mem) (a32 : Option Addr) (c33 : Nat) (M37 : Mem) : oT Try.prog [] 60 Try.f25 q25 [(.agg ⟨[(i64 (((n : Nat) : Int))), (pt ab 0)]⟩), (i64 v)] M [ttV 1 (pt b1 0) M2, ttL 7 (pt ab 0), ttV 11 (.slice a16 (rowV ad.out v).length c17) M21, ttT 13, ttL 17 (pt ab 0), ttV 21 (.slice a32 (rowV ad.inn v).length c33) M37, ttT 23] 4 = some (.ret, some (i64 (IntKind.wrap .i64 (((((rowV ad.out v).length : Nat) : Int)) + ((((rowV ad.inn v).length : Nat) : Int))))), (Mem.mk M37.blks M37.next M2.hide (M37.log ++ M2.log)), [.eq (abox Try.prog 46 (.agg ⟨[(i64 (((n : Nat) : Int))), (pt ab 0)]⟩) M) (1, .val (pt b1 0), M2), qL 44 b1 1 (Mem.mk M2.blks M2.next M2.hide []) (pt ab 0), qC 32 [(pt ab 0), (i64 v)] (Mem.mk M2.blks M2.next M2.hide []) (.slice a16 (rowV ad.out v).length c17) M21, .ln a16 (rowV ad.out v).length c17, qL 44 b1 1 (Mem.mk M21.blks M21.next (hides 32 [⟨3, 1, M2.next, M21.next⟩, ⟨1, 1, M2.next, M2.next⟩] ++ M2.hide) M21.log) (pt ab 0), qT (Nat.blt b1 M2.next), qC 33 [(pt ab 0), (i64 v)] (Mem.mk M21.blks M21.next M2.hide M21.log) (.slice a32 (rowV ad.inn v).length c33) M37, .ln a32 (rowV ad.inn v).length c33, qT (apartN [b1] M37.log)]) := by kernel_rfl
theorem w25 (n ab : Nat) (ad : AdjM) (v : Int) {M : Mem} (hM : MemOk M) (hadj : pAdj 59 ad (pt ab 0) M) (hok : okA ad) : ∃ v_ M', Ev Try.prog [] 25 [(.agg ⟨[(i64 (((n : Nat) : Int))), (pt ab 0)]⟩), (i64 v)] M v_ M' ∧ Ext M M' ∧ MemOk M' ∧ v_ = i64 ((endsN ad v : Nat) : Int) := by
  obtain ⟨b1, M2, eb3, em4, g5, E6, hM7⟩ := new_t hM ⟨[(i64 (((n : Nat) : Int))), (pt ab 0)], 46, 2, 0, true⟩
  have nb1 : M.next ≤ b1 := by rw [← eb3]; exact (Ext.refl M).next
  have nx8 := E6.next
  have X9 := (Ext.refl M).trans E6
  obtain ⟨R10, eR11⟩ : ∃ m : Mem, m = Mem.mk M2.blks M2.next M2.hide [] := ⟨_, rfl⟩
  have X12 : Ext (Mem.mk M.blks M.next M.hide []) R10 := by rw [eR11]; exact Ext.aside (X9)
  have lg13 : R10.log = [] := by rw [eR11]
  have nxR10 : R10.next = M2.next := by rw [eR11]
  have hM14 : MemOk R10 := by rw [eR11]; exact MemOk.log hM7
  have ltb1M2 : b1 < M2.next := by have h := Mem.lt_of_get g5; exact h
  have g15 : R10.get b1 = some ⟨[(i64 (((n : Nat) : Int))), (pt ab 0)], 46, 2, 0, true⟩ := by rw [eR11]; exact g5
  have ltb1M21 := Mem.lt_of_get g15
  obtain ⟨w19, N20, M21, p22, l23, e24, E25, hM26, F27⟩ := call_fc (x := (ad, v)) hM14 con32 (⟨⟨_, _, rfl, (AP.Ext (R := pAdj 59) (AP.log (R := pAdj 59) hadj) X12), rfl⟩, hok⟩)
  have nx28 := E25.next
  have g29 := E25.old g15
  have G18 : pInts (rowV ad.out v) w19 M21 := newR.out (R := pInts) F27
  obtain ⟨a16, c17, ew19⟩ := GRowsAt.form G18
  subst ew19
  have lna16 := GRowsAt.ln G18
  have lg30 : M21.log = [] := by rw [← e24]; exact lg13
  have X31 := X12.trans E25
  have ltb1M37 := Mem.lt_of_get g29
  obtain ⟨w35, N36, M37, p38, l39, e40, E41, hM42, F43⟩ := call_fc (x := (ad, v)) hM26 con33 (⟨⟨_, _, rfl, (AP.Ext (R := pAdj 59) (AP.log (R := pAdj 59) hadj) X31), rfl⟩, hok⟩)
  have nx44 := E41.next
  have G34 : pInts (rowV ad.inn v) w35 M37 := newR.out (R := pInts) F43
  obtain ⟨a32, c33, ew35⟩ := GRowsAt.form G34
  subst ew35
  have lna32 := GRowsAt.ln G34
  have lg46 : M37.log = [] := by rw [← e40]; exact lg30
  have X47 := X31.trans E41
  obtain ⟨M48, ef49⟩ : ∃ m : Mem, m = (Mem.mk M37.blks M37.next M37.hide (M37.log ++ M2.log)) := ⟨_, rfl⟩
  have X50 : Ext M M48 := by rw [ef49]; exact Ext.join (X9) (X47)
  have hM51 : MemOk M48 := by rw [ef49]; exact hM42
  have hraw := w25_raw n ab ad v M  b1 M2 a16 c17 M21 a32 c33 M37
  have rw0 : Mem.mk M2.blks M2.next M2.hide [] = R10 := eR11.symm
  have rw1 : Mem.mk M21.blks M21.next M2.hide M21.log = M21 := by rw [(show M2.hide = M21.hide from ((X9).hide.trans (X31).hide.symm))]
  have rw2 : Mem.mk M21.blks M21.next (hides 32 [⟨3, 1, M2.next, M21.next⟩, ⟨1, 1, M2.next, M2.next⟩] ++ M2.hide) M21.log = hidx (hides 32 [⟨3, 1, M2.next, M21.next⟩, ⟨1, 1, M2.next, M2.next⟩]) M21 := by rw [(show M2.hide = M21.hide from ((X9).hide.trans (X31).hide.symm))]; rfl
  have rw3 : Mem.mk M37.blks M37.next M2.hide M37.log = M37 := by rw [(show M2.hide = M37.hide from ((X9).hide.trans (X47).hide.symm))]
  have rw4 : (Mem.mk M37.blks M37.next M2.hide (M37.log ++ M2.log)) = (Mem.mk M37.blks M37.next M37.hide (M37.log ++ M2.log)) := by rw [(show M2.hide = M37.hide from ((X9).hide.trans (X47).hide.symm))]
  have rw5 : (Mem.mk M37.blks M37.next M37.hide (M37.log ++ M2.log)) = M48 := ef49.symm
  try rw [rw0] at hraw
  try rw [rw1] at hraw
  try rw [rw2] at hraw
  try rw [rw3] at hraw
  try rw [rw4] at hraw
  try rw [rw5] at hraw
  exact ⟨(i64 (IntKind.wrap .i64 (((((rowV ad.out v).length : Nat) : Int)) + ((((rowV ad.inn v).length : Nat) : Int))))), M48, Ev.told_tmp noNumP mixedP Try.func25 q25_ok (by kernel_rfl) rK25 (fun B => specsB_ok (k := []) (hS25_32_33 B) (fun p hp => by cases hp)) (fun _ _ => rfl) hraw (hk (q_eq (by rw [← eb3, ← em4]; kernel_rfl) Nat.one_ne_zero) (hk (lC dC44 g15 rfl) (hk (q_call rfl p22 l23 e24) (hk (lN lna16) (hk (lC dC44 (hidx_get.2 ⟨hides_low (by simp; omega), g29⟩) rfl) (hk (q_lt ltb1M2) (hk (q_call rfl p38 l39 e40) (hk (lN lna32) (hk (q_apart (by rw [lg46]; simp <;> omega)) hn))))))))), X50, hM51, congrArg i64 (wrap_add (by have := endsN_le hok v; unfold endsN at this; omega))⟩
abbrev Q25 := FC (asP (as2 (pSight 59) pI) fun x => okA x.1.2) (plain pI) (fun x => ((endsN x.1.2 x.2 : Nat) : Int))
theorem con25 {x : (Nat × AdjM) × Int} {lv : List Value} {M : Mem} (hM : MemOk M) (h : (asP (as2 (pSight 59) pI) fun x : (Nat × AdjM) × Int => okA x.1.2) x lv M) : ∃ v M', Con Try.prog [] 25 Q25 lv M v M' := by
  refine FC.con h ?_
  obtain ⟨⟨g0, g1, rfl, k0, k1⟩, hok⟩ := h
  obtain ⟨⟨n, ad⟩, v⟩ := x
  obtain rfl := k1
  obtain ⟨p, rfl, hadj⟩ := k0
  obtain ⟨ab, o, i_, t, s, rfl, gab, hout, hinn, hto, hset⟩ := id hadj
  obtain ⟨v', M', h1, h2, _, h3⟩ := w25 n ab ad v hM hadj hok
  exact ⟨v', M', h1, h2, h3⟩
theorem rK20 : Try.f20.results = #[.cell 2 46] := by kernel_rfl
theorem hS20_26_27 (B : Bd) : ∀ p ∈ ([(26, pick (Con Try.prog [] 26 Q26)), (27, pick (Con Try.prog [] 27 Q27))] : List (FuncId × (List Value → Mem → Option (Value × Mem)))), SpecOk Try.prog [] B p.1 p.2 := (fun p hp => by simp only [List.mem_cons, List.not_mem_nil, or_false] at hp; rcases hp with rfl | rfl <;> first | exact Con.ok _)
theorem w20_raw (n : Nat) (al : Option Addr) (cl : Nat) (l : List E4) (M : Mem) (b1 : Nat) (M2 : Mem) (b10 : Nat) (M11 : Mem) (ab20 : Nat) (M24 : Mem) (b35 : Nat) (M36 : Mem) (M47 : Mem) (M59 : Mem) (M72 : Mem) (M82 : Mem) : oT Try.prog [] 60 Try.f20 q20 [(.agg ⟨[(i64 (((n : Nat) : Int))), (.slice al l.length cl)]⟩)] M [ttV 1 (pt b1 0) M2, ttV 3 (pt b10 0) M11, ttL 5 (.agg ⟨[(i64 (((n : Nat) : Int))), (.slice al l.length cl)]⟩), ttV 7 (pt ab20 0) M24, ttV 11 (pt b35 0) M36, ttS 13 M47, ttL 15 (.agg ⟨[(i64 (((n : Nat) : Int))), (.slice al l.length cl)]⟩), ttV 17 (.bool (chkN ((n : Nat) : Int) l)) M59, ttT 18, ttL 22 (i64 (((n : Nat) : Int))), ttS 26 M72, ttL 28 (.agg ⟨[(i64 (((n : Nat) : Int))), (pt ab20 0)]⟩), ttS 30 M82] 2 = some (.ret, some (pt b10 0), M82, [.eq (abox Try.prog 26 (.agg ⟨[(i64 (((n : Nat) : Int))), (.slice al l.length cl)]⟩) M) (1, .val (pt b1 0), M2), .eq (aalloc Try.prog 46 M2) (1, .val (pt b10 0), M11), qL 26 b1 0 M11 (.agg ⟨[(i64 (((n : Nat) : Int))), (.slice al l.length cl)]⟩), qC 26 [(.agg ⟨[(i64 (((n : Nat) : Int))), (.slice al l.length cl)]⟩)] M11 (pt ab20 0) M24, .eq (aalloc Try.prog 46 M24) (1, .val (pt b35 0), M36), qS 46 b35 0 (.agg ⟨[(i64 0), (pt ab20 0)]⟩) M36 M47, qL 26 b1 0 M47 (.agg ⟨[(i64 (((n : Nat) : Int))), (.slice al l.length cl)]⟩), qC 27 [(.agg ⟨[(i64 (((n : Nat) : Int))), (.slice al l.length cl)]⟩)] M47 (.bool (chkN ((n : Nat) : Int) l)) M59, qT (chkN ((n : Nat) : Int) l), qL 3 b1 0 M59 (i64 (((n : Nat) : Int))), qS 3 b35 0 (i64 (((n : Nat) : Int))) M59 M72, qL 46 b35 0 M72 (.agg ⟨[(i64 (((n : Nat) : Int))), (pt ab20 0)]⟩), qS 46 b10 0 (.agg ⟨[(i64 (((n : Nat) : Int))), (pt ab20 0)]⟩) M72 M82]) := by kernel_rfl
theorem w20 (n : Nat) (al : Option Addr) (cl : Nat) (l : List E4) {M : Mem} (hM : MemOk M) (hl : pEdges l (.slice al l.length cl) M) (hck : chkN ((n : Nat) : Int) l = true) : ∃ v_ M', Ev Try.prog [] 20 [(.agg ⟨[(i64 (((n : Nat) : Int))), (.slice al l.length cl)]⟩)] M v_ M' ∧ Ext M M' ∧ MemOk M' ∧ newR (pSight 59) (n, adjM n l) M.next v_ M' := by
  obtain ⟨b1, M2, eb3, em4, g5, E6, hM7⟩ := new_t hM ⟨[(i64 (((n : Nat) : Int))), (.slice al l.length cl)], 26, 2, 0, true⟩
  have nb1 : M.next ≤ b1 := by rw [← eb3]; exact (Ext.refl M).next
  have nx8 := E6.next
  have X9 := (Ext.refl M).trans E6
  obtain ⟨b10, M11, eb12, em13, g14, E15, hM16⟩ := new_t hM7 ⟨[(i64 0), (.pointer none)], 46, 2, 0, true⟩
  have nb10 : M.next ≤ b10 := by rw [← eb12]; exact X9.next
  have db1b10 : b1 ≠ b10 := by have := Mem.lt_of_get g5; omega
  have g17 := E15.old g5
  have nx18 := E15.next
  have X19 := X9.trans E15
  have ltb1M24 := Mem.lt_of_get g17
  have ltb10M24 := Mem.lt_of_get g14
  obtain ⟨w22, N23, M24, p25, l26, e27, E28, hM29, F30⟩ := call_fc (x := (n, l)) hM16 con26 (⟨⟨_, rfl, _, rfl, AP.Ext (R := pEdges) hl X19⟩, hck⟩)
  have nx31 := E28.next
  have g32 := E28.old g17
  have g33 := E28.old g14
  have G21 : pAdj 59 (adjM n l) w22 (hidx [(0, M11.next)] M24) := hx_of F30
  obtain ⟨ab20, _, _, _, _, ew22, _⟩ := id G21
  subst ew22
  have X34 := X19.trans E28
  obtain ⟨b35, M36, eb37, em38, g39, E40, hM41⟩ := new_t hM29 ⟨[(i64 0), (.pointer none)], 46, 2, 0, true⟩
  have nb35 : M.next ≤ b35 := by rw [← eb37]; exact X34.next
  have db1b35 : b1 ≠ b35 := by have := Mem.lt_of_get g32; omega
  have db10b35 : b10 ≠ b35 := by have := Mem.lt_of_get g33; omega
  have F42 := hx_new (R := (pAdj 59)) G21 eb37 E40
  have g43 := E40.old g32
  have g44 := E40.old g33
  have nx45 := E40.next
  have X46 := X34.trans E40
  obtain ⟨M47, q48, g49, kp50, X51, hM52, nx53⟩ := store_t (o := 0) (v := (.agg ⟨[(i64 0), (pt ab20 0)]⟩)) (new := [(i64 0), (pt ab20 0)]) X46 nb35 hM41 dS46 g39 rfl rfl (Nat.zero_le _) (Nat.le_of_ble_eq_true rfl) rfl
  replace g49 : M47.get b35 = some ⟨[(i64 0), (pt ab20 0)], 46, 2, 0, true⟩ := g49
  have F54 := hx_keep (R := (pAdj 59)) F42 (fun id h _ => kp50 id h) (by intro id hh; simp only [hidden_con] at hh; omega)
  have g55 := (kp50 _ db1b35).trans g43
  have g56 := (kp50 _ db10b35).trans g44
  have ltb1M59 := Mem.lt_of_get g55
  have ltb10M59 := Mem.lt_of_get g56
  have ltb35M59 := Mem.lt_of_get g49
  obtain ⟨w57, N58, M59, p60, l61, e62, E63, hM64, F65⟩ := call_fc (x := (((n : Nat) : Int), l)) hM52 con27 (⟨_, rfl, _, rfl, AP.Ext (R := pEdges) hl X51⟩)
  have nx66 := E63.next
  have F67 := hx_ext (R := (pAdj 59)) F54 E63
  have g68 := E63.old g55
  have g69 := E63.old g56
  have g70 := E63.old g49
  have ew57 : w57 = (.bool (chkN ((n : Nat) : Int) l)) := F65
  subst ew57
  have X71 := X51.trans E63
  obtain ⟨M72, q73, g74, kp75, X76, hM77, nx78⟩ := store_t (o := 0) (v := (i64 (((n : Nat) : Int)))) (new := [(i64 (((n : Nat) : Int))), (pt ab20 0)]) X71 nb35 hM64 dS3 g70 rfl rfl (Nat.zero_le _) (Nat.le_of_ble_eq_true rfl) rfl
  replace g74 : M72.get b35 = some ⟨[(i64 (((n : Nat) : Int))), (pt ab20 0)], 46, 2, 0, true⟩ := g74
  have F79 := hx_keep (R := (pAdj 59)) F67 (fun id h _ => kp75 id h) (by intro id hh; simp only [hidden_con] at hh; omega)
  have g81 := (kp75 _ db10b35).trans g69
  obtain ⟨M82, q83, g84, kp85, X86, hM87, nx88⟩ := store_t (o := 0) (v := (.agg ⟨[(i64 (((n : Nat) : Int))), (pt ab20 0)]⟩)) (new := [(i64 (((n : Nat) : Int))), (pt ab20 0)]) X76 nb10 hM77 dS46 g81 rfl rfl (Nat.zero_le _) (Nat.le_of_ble_eq_true rfl) rfl
  replace g84 : M82.get b10 = some ⟨[(i64 (((n : Nat) : Int))), (pt ab20 0)], 46, 2, 0, true⟩ := g84
  have F89 := hx_keep (R := (pAdj 59)) F79 (fun id h _ => kp85 id h) (by intro id hh; simp only [hidden_con] at hh; omega)
  have hraw := w20_raw n al cl l M  b1 M2 b10 M11 ab20 M24 b35 M36 M47 M59 M72 M82
  exact ⟨(.agg ⟨[(i64 (((n : Nat) : Int))), (pt ab20 0)]⟩), M82, Ev.told_cell noNumP mixedP Try.func20 q20_ok (by kernel_rfl) rK20 (fun B => specsB_ok (k := []) (hS20_26_27 B) (fun p hp => by cases hp)) (fun _ _ => rfl) hraw (aload_agg (a := ⟨b10, 0, none⟩) dA46 dS46 g84 rfl) (hk (q_eq (by rw [← eb3, ← em4]; kernel_rfl) Nat.one_ne_zero) (hk (q_eq (by rw [← eb12, ← em13]; kernel_rfl) Nat.one_ne_zero) (hk (lA ⟨dA26, dS26⟩ g17 rfl) (hk (q_call rfl p25 l26 e27) (hk (q_eq (by rw [← eb37, ← em38]; kernel_rfl) Nat.one_ne_zero) (hk (q_st q48) (hk (lA ⟨dA26, dS26⟩ g55 rfl) (hk (q_call rfl p60 l61 e62) (hk (bT hck) (hk (lC dC3 g68 rfl) (hk (q_st q73) (hk (lA ⟨dA46, dS46⟩ g74 rfl) (hk (q_st q83) hn))))))))))))), X86, hM87, ⟨_, rfl, hx_to (R := pAdj 59) F89 (by intro id hh; simp only [hidden_con] at hh; omega)⟩⟩
abbrev Q20 := FC (asP (as1 pNetN) fun x => chkN ((x.1 : Nat) : Int) x.2 = true) (newR (pSight 59)) (fun x => (x.1, adjM x.1 x.2))
theorem con20 {x : Nat × List E4} {lv : List Value} {M : Mem} (hM : MemOk M) (h : (asP (as1 pNetN) fun x : Nat × List E4 => chkN ((x.1 : Nat) : Int) x.2 = true) x lv M) : ∃ v M', Con Try.prog [] 20 Q20 lv M v M' := by
  refine FC.con h ?_
  obtain ⟨⟨g0, rfl, k0⟩, hck⟩ := h
  obtain ⟨n, l⟩ := x
  obtain ⟨_, rfl, hl⟩ := k0
  obtain ⟨a, c, rfl⟩ := GRowsAt.form hl
  obtain ⟨v, M', h1, h2, _, h3⟩ := w20 n a c l hM hl hck
  exact ⟨v, M', h1, h2, h3⟩
end Go.Proofs.Ytfeabmmgmbddnaa
