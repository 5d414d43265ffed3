/-
  Package adj: each of its laws for every argument; no conditions. The last text states which.
-/
import Derived.Test.YtipnhelkganmdaaGAmPw
import Derived.Test.YtipnhelkganmdaaGUB
open Go Go.Am Go.Proofs
namespace Go.Proofs.Ytipnhelkganmdaa
set_option maxRecDepth 100000
set_option linter.unusedVariables false
set_option linter.unusedSimpArgs false
theorem dC3 : (Try.prog.underlying 3).map isAggD = some false := by kernel_rfl
theorem dS3 : (Try.prog.info? 3).map (·.size) = some 1 := by kernel_rfl
theorem rK37 : Try.f37.results = #[.tmp 4] := by kernel_rfl
theorem w46_0_raw (x : Int) (n : Int) (M : Mem)  : oT Try.prog [] 51 Try.f37 q37 [(i64 x), (i64 n)] M [ttT 8, ttT 10, ttT 12, ttT 15] 4 = some (.ret, some (.bool (decide (x < n))), M, [qT (decide (x ≥ (0 : Int))), qT (decide (x ≥ (0 : Int))), qT (decide (x ≥ (0 : Int))), qT (decide (x ≥ (0 : Int)))]) := by kernel_rfl
theorem w46_0 (x : Int) (n : Int) {M : Mem} (hM : MemOk M) (cc0 : (decide (x ≥ (0 : Int))) = true) : ∃ v M', Ev Try.prog [] 37 [(i64 x), (i64 n)] M v M' ∧ Ext M M' ∧ MemOk M' ∧ v = (.bool (decide (x < n))) := by
  have hraw := w46_0_raw x n M  
  exact ⟨(.bool (decide (x < n))), M, Ev.told_tmp noNumP mixedP Try.func37 q37_ok (by kernel_rfl) rK37 (specs_none Try.prog) (fun _ _ => rfl) hraw (hk (bT cc0) (hk (bT cc0) (hk (bT cc0) (hk (bT cc0) hn)))), (Ext.refl M), hM, rfl⟩
theorem w46_1_raw (x : Int) (n : Int) (M : Mem)  : oT Try.prog [] 51 Try.f37 q37 [(i64 x), (i64 n)] M [ttF 8, ttF 10, ttF 12, ttF 15] 4 = some (.ret, some (.bool false), M, [qF (decide (x ≥ (0 : Int))), qF (decide (x ≥ (0 : Int))), qF (decide (x ≥ (0 : Int))), qF (decide (x ≥ (0 : Int)))]) := by kernel_rfl
theorem w46_1 (x : Int) (n : Int) {M : Mem} (hM : MemOk M) (cc0 : (decide (x ≥ (0 : Int))) = false) : ∃ v M', Ev Try.prog [] 37 [(i64 x), (i64 n)] M v M' ∧ Ext M M' ∧ MemOk M' ∧ v = (.bool false) := by
  have hraw := w46_1_raw x n M  
  exact ⟨(.bool false), M, Ev.told_tmp noNumP mixedP Try.func37 q37_ok (by kernel_rfl) rK37 (specs_none Try.prog) (fun _ _ => rfl) hraw (hk (bF cc0) (hk (bF cc0) (hk (bF cc0) (hk (bF cc0) hn)))), (Ext.refl M), hM, rfl⟩
theorem w46_all (x : Int) (n : Int) {M : Mem} (hM : MemOk M) : ∃ v M', Ev Try.prog [] 37 [(i64 x), (i64 n)] M v M' ∧ Ext M M' ∧ MemOk M' ∧ v = .bool (belB x n) := by
  cases cc0 : (decide (x ≥ (0 : Int))) with
  | true =>
    obtain ⟨v, M1, h1, h2, h3, h4⟩ := w46_0 x n hM  cc0
    refine ⟨v, M1, h1, h2, h3, ?_⟩
    subst h4
    first | rfl | (simp only [belB, cc0, cond_true, cond_false, Bool.true_and, Bool.false_and, Bool.and_true, Bool.and_false, Bool.true_or, Bool.false_or, Bool.or_true, Bool.or_false, Bool.not_true, Bool.not_false]; done) | (simp only [belB, cc0, cond_true, cond_false, Bool.true_and, Bool.false_and, Bool.and_true, Bool.and_false, Bool.true_or, Bool.false_or, Bool.or_true, Bool.or_false, Bool.not_true, Bool.not_false] <;> rfl) | (simp_all [belB]; done)
  | false =>
    obtain ⟨v, M1, h1, h2, h3, h4⟩ := w46_1 x n hM  cc0
    refine ⟨v, M1, h1, h2, h3, ?_⟩
    subst h4
    first | rfl | (simp only [belB, cc0, cond_true, cond_false, Bool.true_and, Bool.false_and, Bool.and_true, Bool.and_false, Bool.true_or, Bool.false_or, Bool.or_true, Bool.or_false, Bool.not_true, Bool.not_false]; done) | (simp only [belB, cc0, cond_true, cond_false, Bool.true_and, Bool.false_and, Bool.and_true, Bool.and_false, Bool.true_or, Bool.false_or, Bool.or_true, Bool.or_false, Bool.not_true, Bool.not_false] <;> rfl) | (simp_all [belB]; done)
abbrev Q37 := FC (as2 pI pI) (plain pB) (fun x => belB x.1 x.2)
theorem con37 {x : (Int) × (Int)} {lv : List Value} {M : Mem} (hM : MemOk M) (h : (as2 pI pI) x lv M) : ∃ v M', Con Try.prog [] 37 Q37 lv M v M' := by
  refine FC.con h ?_
  obtain ⟨x, n⟩ := x
  obtain ⟨g0, g1, rfl, k0, k1⟩ := h
  obtain rfl := k0
  obtain rfl := k1
  obtain ⟨v, M', h1, h2, _, h3⟩ := w46_all x n hM 
  exact ⟨v, M', h1, h2, h3⟩
theorem rK35 : Try.f35.results = #[.tmp 4] := by kernel_rfl
theorem hS40_46 (B : Bd) : ∀ p ∈ ([(37, pick (Con Try.prog [] 37 Q37))] : List (FuncId × (List Value → Mem → Option (Value × Mem)))), SpecOk Try.prog [] B p.1 p.2 := (fun p hp => by simp only [List.mem_cons, List.not_mem_nil, or_false] at hp; rcases hp with rfl <;> first | exact Con.ok _)
theorem w40_0_raw (e : E4) (n : Int) (M : Mem) (b1 : Nat) (M2 : Mem) (M12 : Mem) (M24 : Mem) (M36 : Mem) : oT Try.prog [] 51 Try.f35 q35 [(.agg ⟨[(i64 e.f), (i64 e.t), (i64 e.m), (i64 e.c)]⟩), (i64 n)] M [ttV 1 (pt b1 0) M2, ttL 7 (i64 e.f), ttV 11 (.bool (belB e.f n)) M12, ttT 14, ttT 16, ttL 17 (i64 e.t), ttT 18, ttT 20, ttV 21 (.bool (belB e.t n)) M24, ttT 23, ttT 26, ttT 28, ttL 29 (i64 e.m), ttT 30, ttV 31 (.bool (belB e.m 5)) M36, ttT 33, ttT 36, ttT 38, ttL 39 (i64 e.c), ttT 40, ttT 43, ttT 46, ttT 48, ttL 49 (i64 e.c), ttT 50, ttT 53] 4 = some (.ret, some (.bool (decide (e.c ≤ (2147483647 : Int)))), M36, [.eq (abox Try.prog 32 (.agg ⟨[(i64 e.f), (i64 e.t), (i64 e.m), (i64 e.c)]⟩) M) (1, .val (pt b1 0), M2), qL 3 b1 0 M2 (i64 e.f), qC 37 [(i64 e.f), (i64 n)] M2 (.bool (belB e.f n)) M12, qT (belB e.f n), qT (belB e.f n), qL 3 b1 1 M12 (i64 e.t), qT (belB e.f n), qT (belB e.f n), qC 37 [(i64 e.t), (i64 n)] M12 (.bool (belB e.t n)) M24, qT (belB e.f n), qT (belB e.t n), qT (belB e.t n), qL 3 b1 2 M24 (i64 e.m), qT (belB e.t n), qC 37 [(i64 e.m), (i64 5)] M24 (.bool (belB e.m 5)) M36, qT (belB e.t n), qT (belB e.m 5), qT (belB e.m 5), qL 3 b1 3 M36 (i64 e.c), qT (belB e.m 5), qT (belB e.m 5), qT (decide (e.c ≥ (0 : Int))), qT (decide (e.c ≥ (0 : Int))), qL 3 b1 3 M36 (i64 e.c), qT (decide (e.c ≥ (0 : Int))), qT (decide (e.c ≥ (0 : Int)))]) := by kernel_rfl
theorem w40_0 (e : E4) (n : Int) {M : Mem} (hM : MemOk M) (cc0 : (belB e.f n) = true) (cc1 : (belB e.t n) = true) (cc2 : (belB e.m 5) = true) (cc3 : (decide (e.c ≥ (0 : Int))) = true) : ∃ v M', Ev Try.prog [] 35 [(.agg ⟨[(i64 e.f), (i64 e.t), (i64 e.m), (i64 e.c)]⟩), (i64 n)] M v M' ∧ Ext M M' ∧ MemOk M' ∧ v = (.bool (decide (e.c ≤ (2147483647 : Int)))) := by
  obtain ⟨b1, M2, eb3, em4, g5, E6, hM7⟩ := new_t hM ⟨[(i64 e.f), (i64 e.t), (i64 e.m), (i64 e.c)], 32, 4, 0, true⟩
  have nb1 : M.next ≤ b1 := by rw [← eb3]; exact (Ext.refl M).next
  have nx8 := E6.next
  have X9 := (Ext.refl M).trans E6
  have ltb1M12 := Mem.lt_of_get g5
  obtain ⟨w10, N11, M12, p13, l14, e15, E16, hM17, F18⟩ := call_fc (x := (e.f, n)) hM7 con37 (⟨_, _, rfl, rfl, rfl⟩)
  have nx19 := E16.next
  have g20 := E16.old g5
  have ew10 : w10 = (.bool (belB e.f n)) := F18
  subst ew10
  have X21 := X9.trans E16
  have ltb1M24 := Mem.lt_of_get g20
  obtain ⟨w22, N23, M24, p25, l26, e27, E28, hM29, F30⟩ := call_fc (x := (e.t, n)) hM17 con37 (⟨_, _, rfl, rfl, rfl⟩)
  have nx31 := E28.next
  have g32 := E28.old g20
  have ew22 : w22 = (.bool (belB e.t n)) := F30
  subst ew22
  have X33 := X21.trans E28
  have ltb1M36 := Mem.lt_of_get g32
  obtain ⟨w34, N35, M36, p37, l38, e39, E40, hM41, F42⟩ := call_fc (x := (e.m, 5)) hM29 con37 (⟨_, _, rfl, rfl, rfl⟩)
  have nx43 := E40.next
  have g44 := E40.old g32
  have ew34 : w34 = (.bool (belB e.m 5)) := F42
  subst ew34
  have X45 := X33.trans E40
  have hraw := w40_0_raw e n M  b1 M2 M12 M24 M36
  exact ⟨(.bool (decide (e.c ≤ (2147483647 : Int)))), M36, Ev.told_tmp noNumP mixedP Try.func35 q35_ok (by kernel_rfl) rK35 (fun B => specsB_ok (k := []) (hS40_46 B) (fun p hp => by cases hp)) (fun _ _ => rfl) hraw (hk (q_eq (by rw [← eb3, ← em4]; kernel_rfl) Nat.one_ne_zero) (hk (lC dC3 g5 rfl) (hk (q_call rfl p13 l14 e15) (hk (bT cc0) (hk (bT cc0) (hk (lC dC3 g20 rfl) (hk (bT cc0) (hk (bT cc0) (hk (q_call rfl p25 l26 e27) (hk (bT cc0) (hk (bT cc1) (hk (bT cc1) (hk (lC dC3 g32 rfl) (hk (bT cc1) (hk (q_call rfl p37 l38 e39) (hk (bT cc1) (hk (bT cc2) (hk (bT cc2) (hk (lC dC3 g44 rfl) (hk (bT cc2) (hk (bT cc2) (hk (bT cc3) (hk (bT cc3) (hk (lC dC3 g44 rfl) (hk (bT cc3) (hk (bT cc3) hn)))))))))))))))))))))))))), X45, hM41, rfl⟩
theorem w40_1_raw (e : E4) (n : Int) (M : Mem) (b1 : Nat) (M2 : Mem) (M12 : Mem) (M24 : Mem) (M36 : Mem) : oT Try.prog [] 51 Try.f35 q35 [(.agg ⟨[(i64 e.f), (i64 e.t), (i64 e.m), (i64 e.c)]⟩), (i64 n)] M [ttV 1 (pt b1 0) M2, ttL 7 (i64 e.f), ttV 11 (.bool (belB e.f n)) M12, ttT 14, ttT 16, ttL 17 (i64 e.t), ttT 18, ttT 20, ttV 21 (.bool (belB e.t n)) M24, ttT 23, ttT 26, ttT 28, ttL 29 (i64 e.m), ttT 30, ttV 31 (.bool (belB e.m 5)) M36, ttT 33, ttT 36, ttT 38, ttL 39 (i64 e.c), ttT 40, ttT 43, ttF 46, ttF 48, ttF 50, ttF 53] 4 = some (.ret, some (.bool false), M36, [.eq (abox Try.prog 32 (.agg ⟨[(i64 e.f), (i64 e.t), (i64 e.m), (i64 e.c)]⟩) M) (1, .val (pt b1 0), M2), qL 3 b1 0 M2 (i64 e.f), qC 37 [(i64 e.f), (i64 n)] M2 (.bool (belB e.f n)) M12, qT (belB e.f n), qT (belB e.f n), qL 3 b1 1 M12 (i64 e.t), qT (belB e.f n), qT (belB e.f n), qC 37 [(i64 e.t), (i64 n)] M12 (.bool (belB e.t n)) M24, qT (belB e.f n), qT (belB e.t n), qT (belB e.t n), qL 3 b1 2 M24 (i64 e.m), qT (belB e.t n), qC 37 [(i64 e.m), (i64 5)] M24 (.bool (belB e.m 5)) M36, qT (belB e.t n), qT (belB e.m 5), qT (belB e.m 5), qL 3 b1 3 M36 (i64 e.c), qT (belB e.m 5), qT (belB e.m 5), qF (decide (e.c ≥ (0 : Int))), qF (decide (e.c ≥ (0 : Int))), qF (decide (e.c ≥ (0 : Int))), qF (decide (e.c ≥ (0 : Int)))]) := by kernel_rfl
theorem w40_1 (e : E4) (n : Int) {M : Mem} (hM : MemOk M) (cc0 : (belB e.f n) = true) (cc1 : (belB e.t n) = true) (cc2 : (belB e.m 5) = true) (cc3 : (decide (e.c ≥ (0 : Int))) = false) : ∃ v M', Ev Try.prog [] 35 [(.agg ⟨[(i64 e.f), (i64 e.t), (i64 e.m), (i64 e.c)]⟩), (i64 n)] M v M' ∧ Ext M M' ∧ MemOk M' ∧ v = (.bool false) := by
  obtain ⟨b1, M2, eb3, em4, g5, E6, hM7⟩ := new_t hM ⟨[(i64 e.f), (i64 e.t), (i64 e.m), (i64 e.c)], 32, 4, 0, true⟩
  have nb1 : M.next ≤ b1 := by rw [← eb3]; exact (Ext.refl M).next
  have nx8 := E6.next
  have X9 := (Ext.refl M).trans E6
  have ltb1M12 := Mem.lt_of_get g5
  obtain ⟨w10, N11, M12, p13, l14, e15, E16, hM17, F18⟩ := call_fc (x := (e.f, n)) hM7 con37 (⟨_, _, rfl, rfl, rfl⟩)
  have nx19 := E16.next
  have g20 := E16.old g5
  have ew10 : w10 = (.bool (belB e.f n)) := F18
  subst ew10
  have X21 := X9.trans E16
  have ltb1M24 := Mem.lt_of_get g20
  obtain ⟨w22, N23, M24, p25, l26, e27, E28, hM29, F30⟩ := call_fc (x := (e.t, n)) hM17 con37 (⟨_, _, rfl, rfl, rfl⟩)
  have nx31 := E28.next
  have g32 := E28.old g20
  have ew22 : w22 = (.bool (belB e.t n)) := F30
  subst ew22
  have X33 := X21.trans E28
  have ltb1M36 := Mem.lt_of_get g32
  obtain ⟨w34, N35, M36, p37, l38, e39, E40, hM41, F42⟩ := call_fc (x := (e.m, 5)) hM29 con37 (⟨_, _, rfl, rfl, rfl⟩)
  have nx43 := E40.next
  have g44 := E40.old g32
  have ew34 : w34 = (.bool (belB e.m 5)) := F42
  subst ew34
  have X45 := X33.trans E40
  have hraw := w40_1_raw e n M  b1 M2 M12 M24 M36
  exact ⟨(.bool false), M36, Ev.told_tmp noNumP mixedP Try.func35 q35_ok (by kernel_rfl) rK35 (fun B => specsB_ok (k := []) (hS40_46 B) (fun p hp => by cases hp)) (fun _ _ => rfl) hraw (hk (q_eq (by rw [← eb3, ← em4]; kernel_rfl) Nat.one_ne_zero) (hk (lC dC3 g5 rfl) (hk (q_call rfl p13 l14 e15) (hk (bT cc0) (hk (bT cc0) (hk (lC dC3 g20 rfl) (hk (bT cc0) (hk (bT cc0) (hk (q_call rfl p25 l26 e27) (hk (bT cc0) (hk (bT cc1) (hk (bT cc1) (hk (lC dC3 g32 rfl) (hk (bT cc1) (hk (q_call rfl p37 l38 e39) (hk (bT cc1) (hk (bT cc2) (hk (bT cc2) (hk (lC dC3 g44 rfl) (hk (bT cc2) (hk (bT cc2) (hk (bF cc3) (hk (bF cc3) (hk (bF cc3) (hk (bF cc3) hn))))))))))))))))))))))))), X45, hM41, rfl⟩
theorem w40_2_raw (e : E4) (n : Int) (M : Mem) (b1 : Nat) (M2 : Mem) (M12 : Mem) (M24 : Mem) (M36 : Mem) : oT Try.prog [] 51 Try.f35 q35 [(.agg ⟨[(i64 e.f), (i64 e.t), (i64 e.m), (i64 e.c)]⟩), (i64 n)] M [ttV 1 (pt b1 0) M2, ttL 7 (i64 e.f), ttV 11 (.bool (belB e.f n)) M12, ttT 14, ttT 16, ttL 17 (i64 e.t), ttT 18, ttT 20, ttV 21 (.bool (belB e.t n)) M24, ttT 23, ttT 26, ttT 28, ttL 29 (i64 e.m), ttT 30, ttV 31 (.bool (belB e.m 5)) M36, ttT 33, ttF 36, ttF 38, ttF 40, ttF 43] 4 = some (.ret, some (.bool false), M36, [.eq (abox Try.prog 32 (.agg ⟨[(i64 e.f), (i64 e.t), (i64 e.m), (i64 e.c)]⟩) M) (1, .val (pt b1 0), M2), qL 3 b1 0 M2 (i64 e.f), qC 37 [(i64 e.f), (i64 n)] M2 (.bool (belB e.f n)) M12, qT (belB e.f n), qT (belB e.f n), qL 3 b1 1 M12 (i64 e.t), qT (belB e.f n), qT (belB e.f n), qC 37 [(i64 e.t), (i64 n)] M12 (.bool (belB e.t n)) M24, qT (belB e.f n), qT (belB e.t n), qT (belB e.t n), qL 3 b1 2 M24 (i64 e.m), qT (belB e.t n), qC 37 [(i64 e.m), (i64 5)] M24 (.bool (belB e.m 5)) M36, qT (belB e.t n), qF (belB e.m 5), qF (belB e.m 5), qF (belB e.m 5), qF (belB e.m 5)]) := by kernel_rfl
theorem w40_2 (e : E4) (n : Int) {M : Mem} (hM : MemOk M) (cc0 : (belB e.f n) = true) (cc1 : (belB e.t n) = true) (cc2 : (belB e.m 5) = false) : ∃ v M', Ev Try.prog [] 35 [(.agg ⟨[(i64 e.f), (i64 e.t), (i64 e.m), (i64 e.c)]⟩), (i64 n)] M v M' ∧ Ext M M' ∧ MemOk M' ∧ v = (.bool false) := by
  obtain ⟨b1, M2, eb3, em4, g5, E6, hM7⟩ := new_t hM ⟨[(i64 e.f), (i64 e.t), (i64 e.m), (i64 e.c)], 32, 4, 0, true⟩
  have nb1 : M.next ≤ b1 := by rw [← eb3]; exact (Ext.refl M).next
  have nx8 := E6.next
  have X9 := (Ext.refl M).trans E6
  have ltb1M12 := Mem.lt_of_get g5
  obtain ⟨w10, N11, M12, p13, l14, e15, E16, hM17, F18⟩ := call_fc (x := (e.f, n)) hM7 con37 (⟨_, _, rfl, rfl, rfl⟩)
  have nx19 := E16.next
  have g20 := E16.old g5
  have ew10 : w10 = (.bool (belB e.f n)) := F18
  subst ew10
  have X21 := X9.trans E16
  have ltb1M24 := Mem.lt_of_get g20
  obtain ⟨w22, N23, M24, p25, l26, e27, E28, hM29, F30⟩ := call_fc (x := (e.t, n)) hM17 con37 (⟨_, _, rfl, rfl, rfl⟩)
  have nx31 := E28.next
  have g32 := E28.old g20
  have ew22 : w22 = (.bool (belB e.t n)) := F30
  subst ew22
  have X33 := X21.trans E28
  have ltb1M36 := Mem.lt_of_get g32
  obtain ⟨w34, N35, M36, p37, l38, e39, E40, hM41, F42⟩ := call_fc (x := (e.m, 5)) hM29 con37 (⟨_, _, rfl, rfl, rfl⟩)
  have nx43 := E40.next
  have g44 := E40.old g32
  have ew34 : w34 = (.bool (belB e.m 5)) := F42
  subst ew34
  have X45 := X33.trans E40
  have hraw := w40_2_raw e n M  b1 M2 M12 M24 M36
  exact ⟨(.bool false), M36, Ev.told_tmp noNumP mixedP Try.func35 q35_ok (by kernel_rfl) rK35 (fun B => specsB_ok (k := []) (hS40_46 B) (fun p hp => by cases hp)) (fun _ _ => rfl) hraw (hk (q_eq (by rw [← eb3, ← em4]; kernel_rfl) Nat.one_ne_zero) (hk (lC dC3 g5 rfl) (hk (q_call rfl p13 l14 e15) (hk (bT cc0) (hk (bT cc0) (hk (lC dC3 g20 rfl) (hk (bT cc0) (hk (bT cc0) (hk (q_call rfl p25 l26 e27) (hk (bT cc0) (hk (bT cc1) (hk (bT cc1) (hk (lC dC3 g32 rfl) (hk (bT cc1) (hk (q_call rfl p37 l38 e39) (hk (bT cc1) (hk (bF cc2) (hk (bF cc2) (hk (bF cc2) (hk (bF cc2) hn)))))))))))))))))))), X45, hM41, rfl⟩
theorem w40_3_raw (e : E4) (n : Int) (M : Mem) (b1 : Nat) (M2 : Mem) (M12 : Mem) (M24 : Mem) : oT Try.prog [] 51 Try.f35 q35 [(.agg ⟨[(i64 e.f), (i64 e.t), (i64 e.m), (i64 e.c)]⟩), (i64 n)] M [ttV 1 (pt b1 0) M2, ttL 7 (i64 e.f), ttV 11 (.bool (belB e.f n)) M12, ttT 14, ttT 16, ttL 17 (i64 e.t), ttT 18, ttT 20, ttV 21 (.bool (belB e.t n)) M24, ttT 23, ttF 26, ttF 28, ttF 30, ttF 33] 4 = some (.ret, some (.bool false), M24, [.eq (abox Try.prog 32 (.agg ⟨[(i64 e.f), (i64 e.t), (i64 e.m), (i64 e.c)]⟩) M) (1, .val (pt b1 0), M2), qL 3 b1 0 M2 (i64 e.f), qC 37 [(i64 e.f), (i64 n)] M2 (.bool (belB e.f n)) M12, qT (belB e.f n), qT (belB e.f n), qL 3 b1 1 M12 (i64 e.t), qT (belB e.f n), qT (belB e.f n), qC 37 [(i64 e.t), (i64 n)] M12 (.bool (belB e.t n)) M24, qT (belB e.f n), qF (belB e.t n), qF (belB e.t n), qF (belB e.t n), qF (belB e.t n)]) := by kernel_rfl
theorem w40_3 (e : E4) (n : Int) {M : Mem} (hM : MemOk M) (cc0 : (belB e.f n) = true) (cc1 : (belB e.t n) = false) : ∃ v M', Ev Try.prog [] 35 [(.agg ⟨[(i64 e.f), (i64 e.t), (i64 e.m), (i64 e.c)]⟩), (i64 n)] M v M' ∧ Ext M M' ∧ MemOk M' ∧ v = (.bool false) := by
  obtain ⟨b1, M2, eb3, em4, g5, E6, hM7⟩ := new_t hM ⟨[(i64 e.f), (i64 e.t), (i64 e.m), (i64 e.c)], 32, 4, 0, true⟩
  have nb1 : M.next ≤ b1 := by rw [← eb3]; exact (Ext.refl M).next
  have nx8 := E6.next
  have X9 := (Ext.refl M).trans E6
  have ltb1M12 := Mem.lt_of_get g5
  obtain ⟨w10, N11, M12, p13, l14, e15, E16, hM17, F18⟩ := call_fc (x := (e.f, n)) hM7 con37 (⟨_, _, rfl, rfl, rfl⟩)
  have nx19 := E16.next
  have g20 := E16.old g5
  have ew10 : w10 = (.bool (belB e.f n)) := F18
  subst ew10
  have X21 := X9.trans E16
  have ltb1M24 := Mem.lt_of_get g20
  obtain ⟨w22, N23, M24, p25, l26, e27, E28, hM29, F30⟩ := call_fc (x := (e.t, n)) hM17 con37 (⟨_, _, rfl, rfl, rfl⟩)
  have nx31 := E28.next
  have g32 := E28.old g20
  have ew22 : w22 = (.bool (belB e.t n)) := F30
  subst ew22
  have X33 := X21.trans E28
  have hraw := w40_3_raw e n M  b1 M2 M12 M24
  exact ⟨(.bool false), M24, Ev.told_tmp noNumP mixedP Try.func35 q35_ok (by kernel_rfl) rK35 (fun B => specsB_ok (k := []) (hS40_46 B) (fun p hp => by cases hp)) (fun _ _ => rfl) hraw (hk (q_eq (by rw [← eb3, ← em4]; kernel_rfl) Nat.one_ne_zero) (hk (lC dC3 g5 rfl) (hk (q_call rfl p13 l14 e15) (hk (bT cc0) (hk (bT cc0) (hk (lC dC3 g20 rfl) (hk (bT cc0) (hk (bT cc0) (hk (q_call rfl p25 l26 e27) (hk (bT cc0) (hk (bF cc1) (hk (bF cc1) (hk (bF cc1) (hk (bF cc1) hn)))))))))))))), X33, hM29, rfl⟩
theorem w40_4_raw (e : E4) (n : Int) (M : Mem) (b1 : Nat) (M2 : Mem) (M12 : Mem) : oT Try.prog [] 51 Try.f35 q35 [(.agg ⟨[(i64 e.f), (i64 e.t), (i64 e.m), (i64 e.c)]⟩), (i64 n)] M [ttV 1 (pt b1 0) M2, ttL 7 (i64 e.f), ttV 11 (.bool (belB e.f n)) M12, ttF 14, ttF 16, ttF 18, ttF 20, ttF 23] 4 = some (.ret, some (.bool false), M12, [.eq (abox Try.prog 32 (.agg ⟨[(i64 e.f), (i64 e.t), (i64 e.m), (i64 e.c)]⟩) M) (1, .val (pt b1 0), M2), qL 3 b1 0 M2 (i64 e.f), qC 37 [(i64 e.f), (i64 n)] M2 (.bool (belB e.f n)) M12, qF (belB e.f n), qF (belB e.f n), qF (belB e.f n), qF (belB e.f n), qF (belB e.f n)]) := by kernel_rfl
theorem w40_4 (e : E4) (n : Int) {M : Mem} (hM : MemOk M) (cc0 : (belB e.f n) = false) : ∃ v M', Ev Try.prog [] 35 [(.agg ⟨[(i64 e.f), (i64 e.t), (i64 e.m), (i64 e.c)]⟩), (i64 n)] M v M' ∧ Ext M M' ∧ MemOk M' ∧ v = (.bool false) := by
  obtain ⟨b1, M2, eb3, em4, g5, E6, hM7⟩ := new_t hM ⟨[(i64 e.f), (i64 e.t), (i64 e.m), (i64 e.c)], 32, 4, 0, true⟩
  have nb1 : M.next ≤ b1 := by rw [← eb3]; exact (Ext.refl M).next
  have nx8 := E6.next
  have X9 := (Ext.refl M).trans E6
  have ltb1M12 := Mem.lt_of_get g5
  obtain ⟨w10, N11, M12, p13, l14, e15, E16, hM17, F18⟩ := call_fc (x := (e.f, n)) hM7 con37 (⟨_, _, rfl, rfl, rfl⟩)
  have nx19 := E16.next
  have g20 := E16.old g5
  have ew10 : w10 = (.bool (belB e.f n)) := F18
  subst ew10
  have X21 := X9.trans E16
  have hraw := w40_4_raw e n M  b1 M2 M12
  exact ⟨(.bool false), M12, Ev.told_tmp noNumP mixedP Try.func35 q35_ok (by kernel_rfl) rK35 (fun B => specsB_ok (k := []) (hS40_46 B) (fun p hp => by cases hp)) (fun _ _ => rfl) hraw (hk (q_eq (by rw [← eb3, ← em4]; kernel_rfl) Nat.one_ne_zero) (hk (lC dC3 g5 rfl) (hk (q_call rfl p13 l14 e15) (hk (bF cc0) (hk (bF cc0) (hk (bF cc0) (hk (bF cc0) (hk (bF cc0) hn)))))))), X21, hM17, rfl⟩
theorem w40_all (e : E4) (n : Int) {M : Mem} (hM : MemOk M) : ∃ v M', Ev Try.prog [] 35 [(.agg ⟨[(i64 e.f), (i64 e.t), (i64 e.m), (i64 e.c)]⟩), (i64 n)] M v M' ∧ Ext M M' ∧ MemOk M' ∧ v = .bool (fitE n e) := by
  cases cc0 : (belB e.f n) with
  | true =>
    cases cc1 : (belB e.t n) with
    | true =>
      cases cc2 : (belB e.m 5) with
      | true =>
        cases cc3 : (decide (e.c ≥ (0 : Int))) with
        | true =>
          obtain ⟨v, M1, h1, h2, h3, h4⟩ := w40_0 e n hM  cc0 cc1 cc2 cc3
          refine ⟨v, M1, h1, h2, h3, ?_⟩
          subst h4
          first | rfl | (simp only [fitE, cc0, cc1, cc2, cc3, cond_true, cond_false, Bool.true_and, Bool.false_and, Bool.and_true, Bool.and_false, Bool.true_or, Bool.false_or, Bool.or_true, Bool.or_false, Bool.not_true, Bool.not_false]; done) | (simp only [fitE, cc0, cc1, cc2, cc3, cond_true, cond_false, Bool.true_and, Bool.false_and, Bool.and_true, Bool.and_false, Bool.true_or, Bool.false_or, Bool.or_true, Bool.or_false, Bool.not_true, Bool.not_false] <;> rfl) | (simp_all [fitE]; done)
        | false =>
          obtain ⟨v, M1, h1, h2, h3, h4⟩ := w40_1 e n hM  cc0 cc1 cc2 cc3
          refine ⟨v, M1, h1, h2, h3, ?_⟩
          subst h4
          first | rfl | (simp only [fitE, cc0, cc1, cc2, cc3, cond_true, cond_false, Bool.true_and, Bool.false_and, Bool.and_true, Bool.and_false, Bool.true_or, Bool.false_or, Bool.or_true, Bool.or_false, Bool.not_true, Bool.not_false]; done) | (simp only [fitE, cc0, cc1, cc2, cc3, cond_true, cond_false, Bool.true_and, Bool.false_and, Bool.and_true, Bool.and_false, Bool.true_or, Bool.false_or, Bool.or_true, Bool.or_false, Bool.not_true, Bool.not_false] <;> rfl) | (simp_all [fitE]; done)
      | false =>
        obtain ⟨v, M1, h1, h2, h3, h4⟩ := w40_2 e n hM  cc0 cc1 cc2
        refine ⟨v, M1, h1, h2, h3, ?_⟩
        subst h4
        first | rfl | (simp only [fitE, cc0, cc1, cc2, cond_true, cond_false, Bool.true_and, Bool.false_and, Bool.and_true, Bool.and_false, Bool.true_or, Bool.false_or, Bool.or_true, Bool.or_false, Bool.not_true, Bool.not_false]; done) | (simp only [fitE, cc0, cc1, cc2, cond_true, cond_false, Bool.true_and, Bool.false_and, Bool.and_true, Bool.and_false, Bool.true_or, Bool.false_or, Bool.or_true, Bool.or_false, Bool.not_true, Bool.not_false] <;> rfl) | (simp_all [fitE]; done)
    | false =>
      obtain ⟨v, M1, h1, h2, h3, h4⟩ := w40_3 e n hM  cc0 cc1
      refine ⟨v, M1, h1, h2, h3, ?_⟩
      subst h4
      first | rfl | (simp only [fitE, cc0, cc1, cond_true, cond_false, Bool.true_and, Bool.false_and, Bool.and_true, Bool.and_false, Bool.true_or, Bool.false_or, Bool.or_true, Bool.or_false, Bool.not_true, Bool.not_false]; done) | (simp only [fitE, cc0, cc1, cond_true, cond_false, Bool.true_and, Bool.false_and, Bool.and_true, Bool.and_false, Bool.true_or, Bool.false_or, Bool.or_true, Bool.or_false, Bool.not_true, Bool.not_false] <;> rfl) | (simp_all [fitE]; done)
  | false =>
    obtain ⟨v, M1, h1, h2, h3, h4⟩ := w40_4 e n hM  cc0
    refine ⟨v, M1, h1, h2, h3, ?_⟩
    subst h4
    first | rfl | (simp only [fitE, cc0, cond_true, cond_false, Bool.true_and, Bool.false_and, Bool.and_true, Bool.and_false, Bool.true_or, Bool.false_or, Bool.or_true, Bool.or_false, Bool.not_true, Bool.not_false]; done) | (simp only [fitE, cc0, cond_true, cond_false, Bool.true_and, Bool.false_and, Bool.and_true, Bool.and_false, Bool.true_or, Bool.false_or, Bool.or_true, Bool.or_false, Bool.not_true, Bool.not_false] <;> rfl) | (simp_all [fitE]; done)
abbrev Q35 := FC (as2 pE pI) (plain pB) (fun x => fitE x.2 x.1)
theorem con35 {x : (E4) × (Int)} {lv : List Value} {M : Mem} (hM : MemOk M) (h : (as2 pE pI) x lv M) : ∃ v M', Con Try.prog [] 35 Q35 lv M v M' := by
  refine FC.con h ?_
  obtain ⟨e, n⟩ := x
  obtain ⟨g0, g1, rfl, k0, k1⟩ := h
  obtain rfl := k0
  obtain rfl := k1
  obtain ⟨v, M', h1, h2, _, h3⟩ := w40_all e n hM 
  exact ⟨v, M', h1, h2, h3⟩
theorem rK34 : Try.f34.results = #[.tmp 2] := by kernel_rfl
theorem w39_0_raw (n : Int) (M : Mem)  : oT Try.prog [] 51 Try.f34 q34 [(i64 n)] M [ttT 8, ttT 10, ttT 13] 2 = some (.ret, some (.bool (decide (n ≤ (60 : Int)))), M, [qT (decide (n ≥ (1 : Int))), qT (decide (n ≥ (1 : Int))), qT (decide (n ≥ (1 : Int)))]) := by kernel_rfl
theorem w39_0 (n : Int) {M : Mem} (hM : MemOk M) (cc0 : (decide (n ≥ (1 : Int))) = true) : ∃ v M', Ev Try.prog [] 34 [(i64 n)] M v M' ∧ Ext M M' ∧ MemOk M' ∧ v = (.bool (decide (n ≤ (60 : Int)))) := by
  have hraw := w39_0_raw n M  
  exact ⟨(.bool (decide (n ≤ (60 : Int)))), M, Ev.told_tmp noNumP mixedP Try.func34 q34_ok (by kernel_rfl) rK34 (specs_none Try.prog) (fun _ _ => rfl) hraw (hk (bT cc0) (hk (bT cc0) (hk (bT cc0) hn))), (Ext.refl M), hM, rfl⟩
theorem w39_1_raw (n : Int) (M : Mem)  : oT Try.prog [] 51 Try.f34 q34 [(i64 n)] M [ttF 8, ttF 10, ttF 13] 2 = some (.ret, some (.bool false), M, [qF (decide (n ≥ (1 : Int))), qF (decide (n ≥ (1 : Int))), qF (decide (n ≥ (1 : Int)))]) := by kernel_rfl
theorem w39_1 (n : Int) {M : Mem} (hM : MemOk M) (cc0 : (decide (n ≥ (1 : Int))) = false) : ∃ v M', Ev Try.prog [] 34 [(i64 n)] M v M' ∧ Ext M M' ∧ MemOk M' ∧ v = (.bool false) := by
  have hraw := w39_1_raw n M  
  exact ⟨(.bool false), M, Ev.told_tmp noNumP mixedP Try.func34 q34_ok (by kernel_rfl) rK34 (specs_none Try.prog) (fun _ _ => rfl) hraw (hk (bF cc0) (hk (bF cc0) (hk (bF cc0) hn))), (Ext.refl M), hM, rfl⟩
theorem w39_all (n : Int) {M : Mem} (hM : MemOk M) : ∃ v M', Ev Try.prog [] 34 [(i64 n)] M v M' ∧ Ext M M' ∧ MemOk M' ∧ v = .bool (fitN n) := by
  cases cc0 : (decide (n ≥ (1 : Int))) with
  | true =>
    obtain ⟨v, M1, h1, h2, h3, h4⟩ := w39_0 n hM  cc0
    refine ⟨v, M1, h1, h2, h3, ?_⟩
    subst h4
    first | rfl | (simp only [fitN, cc0, cond_true, cond_false, Bool.true_and, Bool.false_and, Bool.and_true, Bool.and_false, Bool.true_or, Bool.false_or, Bool.or_true, Bool.or_false, Bool.not_true, Bool.not_false]; done) | (simp only [fitN, cc0, cond_true, cond_false, Bool.true_and, Bool.false_and, Bool.and_true, Bool.and_false, Bool.true_or, Bool.false_or, Bool.or_true, Bool.or_false, Bool.not_true, Bool.not_false] <;> rfl) | (simp_all [fitN]; done)
  | false =>
    obtain ⟨v, M1, h1, h2, h3, h4⟩ := w39_1 n hM  cc0
    refine ⟨v, M1, h1, h2, h3, ?_⟩
    subst h4
    first | rfl | (simp only [fitN, cc0, cond_true, cond_false, Bool.true_and, Bool.false_and, Bool.and_true, Bool.and_false, Bool.true_or, Bool.false_or, Bool.or_true, Bool.or_false, Bool.not_true, Bool.not_false]; done) | (simp only [fitN, cc0, cond_true, cond_false, Bool.true_and, Bool.false_and, Bool.and_true, Bool.and_false, Bool.true_or, Bool.false_or, Bool.or_true, Bool.or_false, Bool.not_true, Bool.not_false] <;> rfl) | (simp_all [fitN]; done)
abbrev Q34 := FC (as1 pI) (plain pB) (fun x => fitN x)
theorem con34 {n : (Int)} {lv : List Value} {M : Mem} (hM : MemOk M) (h : (as1 pI) n lv M) : ∃ v M', Con Try.prog [] 34 Q34 lv M v M' := by
  refine FC.con h ?_
  obtain ⟨g0, rfl, k0⟩ := h
  obtain rfl := k0
  obtain ⟨v, M', h1, h2, _, h3⟩ := w39_all n hM 
  exact ⟨v, M', h1, h2, h3⟩
end Go.Proofs.Ytipnhelkganmdaa
