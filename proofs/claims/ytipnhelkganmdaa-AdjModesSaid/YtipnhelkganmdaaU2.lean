/-
  Package adj: each of its laws for every argument; no conditions. The last text states which.
-/
import Derived.Test.YtipnhelkganmdaaUQ5
import Derived.Test.YtipnhelkganmdaaU1
import Derived.Test.YtipnhelkganmdaaAmBk3
import Derived.Test.YtipnhelkganmdaaAmAcd
open Go Go.Am Go.Proofs
namespace Go.Proofs.Ytipnhelkganmdaa
set_option maxRecDepth 100000
set_option linter.unusedVariables false
set_option linter.unusedSimpArgs false
theorem modes_union {n : Nat} {l : List E4} (h : chkN ((n : Nat) : Int) l = true) {v : Int} (hv : 0 ≤ v ∧ v < (n : Int)) : modesI (adjM n l) v = unionI (adjM n l).set (refRow .fr l v l.length ++ refRow .to l v l.length) := by
  have ha := okA_adjM h
  have r1 := modesI_range ha v
  have r2 := unionI_range ha.2.2.2 (refRow .fr l v l.length ++ refRow .to l v l.length)
  have u1 := unionI_range ha.2.2.2 (rowV (adjM n l).out v)
  have u2 := unionI_range ha.2.2.2 (rowV (adjM n l).inn v)
  have key : (modesI (adjM n l) v).toNat = (unionI (adjM n l).set (refRow .fr l v l.length ++ refRow .to l v l.length)).toNat := by
    apply Nat.eq_of_testBit_eq
    intro k
    unfold modesI
    rw [orI_bit u1 u2, union_bit ha.2.2.2, union_bit ha.2.2.2, union_bit ha.2.2.2, out_eq h hv, in_eq h hv, List.any_append]
  omega
theorem union_step {n : Nat} {l : List E4} {o : List Int} {i : Nat} (hi : i < o.length) {e : E4} (he : l[o[i].toNat]? = some e) : unionI (adjM n l).set (o.take (i + 1)) = orI (unionI (adjM n l).set (o.take i)) (setM e.m) := by
  have h1 : (adjM n l).set[o[i].toNat]? = some (setM e.m) := by
    show (l.map (tellE .set))[o[i].toNat]? = _
    rw [List.getElem?_map, he]; rfl
  unfold unionI
  rw [List.take_succ_eq_append_getElem hi, List.foldl_append]
  show orI _ (((adjM n l).set[o[i].toNat]?).getD 0) = _
  rw [h1]; rfl
theorem r5_0_raw (q ab ob oo m co eb eo k ce i u n : Nat) (s x : Int) (M : Mem)  : oR Try.prog [] 60 Try.f5 (q5.loopAt 2) [(5, (pt q 0)), (6, (pt ab 0)), (7, (i64 (((u : Nat) : Int)))), (8, (i64 s)), (9, (sli ob oo m co)), (10, (i64 (((i : Nat) : Int))))] M [ttT 8, ttT 14, ttL 16 (i64 x), ttF 21, ttF 23, ttF 25, ttT 26, ttF 27, ttL 28 (i64 x), ttF 29, ttF 31, ttL 32 (sli eb eo k ce), ttF 33, ttF 35, ttF 38, ttF 39, ttL 45 (sli eb eo k ce), ttT 51, ttL 53 (i64 x), ttT 55, ttL 59 (i64 0)] [5, 6, 7, 8, 9, 10] = some (.normal, [some (pt q 0), some (pt ab 0), some (i64 (((u : Nat) : Int))), some (i64 (orI s (1 : Int))), some (sli ob oo m co), some (i64 (IntKind.wrap .i64 ((((i : Nat) : Int)) + (1 : Int))))], M, [qT (decide ((((i : Nat) : Int)) < (((m : Nat) : Int)))), .q (.inb (((i : Nat) : Int)) m) (ansB true), qL 3 ob (oo + (((i : Nat) : Int) : Int).toNat * 1) M (i64 x), qF (decide (x < (0 : Int))), qF (decide (x < (0 : Int))), qF (decide (x < (0 : Int))), .q (.inb (((i : Nat) : Int)) m) (ansB true), qF (decide (x < (0 : Int))), qL 3 ob (oo + (((i : Nat) : Int) : Int).toNat * 1) M (i64 x), qF (decide (x < (0 : Int))), qF (decide (x < (0 : Int))), qL 24 q 1 M (sli eb eo k ce), qF (decide (x < (0 : Int))), qF (decide (x < (0 : Int))), qF (decide (x < (0 : Int))), qF (decide (x ≥ (((k : Nat) : Int)))), qL 24 q 1 M (sli eb eo k ce), .q (.inb (((i : Nat) : Int)) m) (ansB true), qL 3 ob (oo + (((i : Nat) : Int) : Int).toNat * 1) M (i64 x), .q (.inb x k) (ansB true), qL 3 eb (eo + (x : Int).toNat * 4 + 2) M (i64 0)]) := by kernel_rfl
theorem r5_0 (q ab ob oo m co eb eo k ce i u n : Nat) (s x : Int) {M : Mem} {M0 : Mem} (X0 : Ext M0 M) (gq : M.get q = some ⟨[i64 ((n : Nat) : Int), (sli eb eo k ce)], 26, 2, 0, true⟩) (cc0 : (decide ((((i : Nat) : Int)) < (((m : Nat) : Int)))) = true) (cc1 : (decide (x < (0 : Int))) = false) (cc2 : (decide (x ≥ (((k : Nat) : Int)))) = false) (hld0 : aload Try.prog 3 ⟨ob, oo + (((i : Nat) : Int) : Int).toNat * 1, none⟩ M0 = some (i64 x)) (hi1 : 0 ≤ (x : Int) ∧ (x : Int) < k) (hld2 : aload Try.prog 3 ⟨eb, eo + (x : Int).toNat * 4 + 2, none⟩ M0 = some (i64 0)) : ∃ T1, Rd Try.prog [] (q5.loopAt 2) Try.f5.ntmps (fr [(5, (pt q 0)), (6, (pt ab 0)), (7, (i64 (((u : Nat) : Int)))), (8, (i64 s)), (9, (sli ob oo m co)), (10, (i64 (((i : Nat) : Int))))]) M .normal T1 M ∧ [5, 6, 7, 8, 9, 10].map T1.get = [some (pt q 0), some (pt ab 0), some (i64 (((u : Nat) : Int))), some (i64 (orI s (1 : Int))), some (sli ob oo m co), some (i64 (IntKind.wrap .i64 ((((i : Nat) : Int)) + (1 : Int))))] := by
  have hraw := r5_0_raw q ab ob oo m co eb eo k ce i u n s x M  
  obtain ⟨T1, h1, h2⟩ := Rd.told noNumP mixedP (specs_none Try.prog) (fun _ _ => rfl) hraw (hk (bT cc0) (hk (q_inb (by omega) (by simp at cc0; omega)) (hk (q_ld (aload_ext X0 hld0)) (hk (bF cc1) (hk (bF cc1) (hk (bF cc1) (hk (q_inb (by omega) (by simp at cc0; omega)) (hk (bF cc1) (hk (q_ld (aload_ext X0 hld0)) (hk (bF cc1) (hk (bF cc1) (hk (lC dC24 gq rfl) (hk (bF cc1) (hk (bF cc1) (hk (bF cc1) (hk (bF cc2) (hk (lC dC24 gq rfl) (hk (q_inb (by omega) (by simp at cc0; omega)) (hk (q_ld (aload_ext X0 hld0)) (hk (q_inb hi1.1 hi1.2) (hk (q_ld (aload_ext X0 hld2)) hn)))))))))))))))))))))
  exact ⟨T1, h1, h2⟩
theorem r5_1_raw (q ab ob oo m co eb eo k ce i u n : Nat) (s x : Int) (M : Mem)  : oR Try.prog [] 60 Try.f5 (q5.loopAt 2) [(5, (pt q 0)), (6, (pt ab 0)), (7, (i64 (((u : Nat) : Int)))), (8, (i64 s)), (9, (sli ob oo m co)), (10, (i64 (((i : Nat) : Int))))] M [ttT 8, ttT 14, ttL 16 (i64 x), ttF 21, ttF 23, ttF 25, ttT 26, ttF 27, ttL 28 (i64 x), ttF 29, ttF 31, ttL 32 (sli eb eo k ce), ttF 33, ttF 35, ttF 38, ttF 39, ttL 45 (sli eb eo k ce), ttT 51, ttL 53 (i64 x), ttT 55, ttL 59 (i64 1)] [5, 6, 7, 8, 9, 10] = some (.normal, [some (pt q 0), some (pt ab 0), some (i64 (((u : Nat) : Int))), some (i64 (orI s (2 : Int))), some (sli ob oo m co), some (i64 (IntKind.wrap .i64 ((((i : Nat) : Int)) + (1 : Int))))], M, [qT (decide ((((i : Nat) : Int)) < (((m : Nat) : Int)))), .q (.inb (((i : Nat) : Int)) m) (ansB true), qL 3 ob (oo + (((i : Nat) : Int) : Int).toNat * 1) M (i64 x), qF (decide (x < (0 : Int))), qF (decide (x < (0 : Int))), qF (decide (x < (0 : Int))), .q (.inb (((i : Nat) : Int)) m) (ansB true), qF (decide (x < (0 : Int))), qL 3 ob (oo + (((i : Nat) : Int) : Int).toNat * 1) M (i64 x), qF (decide (x < (0 : Int))), qF (decide (x < (0 : Int))), qL 24 q 1 M (sli eb eo k ce), qF (decide (x < (0 : Int))), qF (decide (x < (0 : Int))), qF (decide (x < (0 : Int))), qF (decide (x ≥ (((k : Nat) : Int)))), qL 24 q 1 M (sli eb eo k ce), .q (.inb (((i : Nat) : Int)) m) (ansB true), qL 3 ob (oo + (((i : Nat) : Int) : Int).toNat * 1) M (i64 x), .q (.inb x k) (ansB true), qL 3 eb (eo + (x : Int).toNat * 4 + 2) M (i64 1)]) := by kernel_rfl
theorem r5_1 (q ab ob oo m co eb eo k ce i u n : Nat) (s x : Int) {M : Mem} {M0 : Mem} (X0 : Ext M0 M) (gq : M.get q = some ⟨[i64 ((n : Nat) : Int), (sli eb eo k ce)], 26, 2, 0, true⟩) (cc0 : (decide ((((i : Nat) : Int)) < (((m : Nat) : Int)))) = true) (cc1 : (decide (x < (0 : Int))) = false) (cc2 : (decide (x ≥ (((k : Nat) : Int)))) = false) (hld0 : aload Try.prog 3 ⟨ob, oo + (((i : Nat) : Int) : Int).toNat * 1, none⟩ M0 = some (i64 x)) (hi1 : 0 ≤ (x : Int) ∧ (x : Int) < k) (hld2 : aload Try.prog 3 ⟨eb, eo + (x : Int).toNat * 4 + 2, none⟩ M0 = some (i64 1)) : ∃ T1, Rd Try.prog [] (q5.loopAt 2) Try.f5.ntmps (fr [(5, (pt q 0)), (6, (pt ab 0)), (7, (i64 (((u : Nat) : Int)))), (8, (i64 s)), (9, (sli ob oo m co)), (10, (i64 (((i : Nat) : Int))))]) M .normal T1 M ∧ [5, 6, 7, 8, 9, 10].map T1.get = [some (pt q 0), some (pt ab 0), some (i64 (((u : Nat) : Int))), some (i64 (orI s (2 : Int))), some (sli ob oo m co), some (i64 (IntKind.wrap .i64 ((((i : Nat) : Int)) + (1 : Int))))] := by
  have hraw := r5_1_raw q ab ob oo m co eb eo k ce i u n s x M  
  obtain ⟨T1, h1, h2⟩ := Rd.told noNumP mixedP (specs_none Try.prog) (fun _ _ => rfl) hraw (hk (bT cc0) (hk (q_inb (by omega) (by simp at cc0; omega)) (hk (q_ld (aload_ext X0 hld0)) (hk (bF cc1) (hk (bF cc1) (hk (bF cc1) (hk (q_inb (by omega) (by simp at cc0; omega)) (hk (bF cc1) (hk (q_ld (aload_ext X0 hld0)) (hk (bF cc1) (hk (bF cc1) (hk (lC dC24 gq rfl) (hk (bF cc1) (hk (bF cc1) (hk (bF cc1) (hk (bF cc2) (hk (lC dC24 gq rfl) (hk (q_inb (by omega) (by simp at cc0; omega)) (hk (q_ld (aload_ext X0 hld0)) (hk (q_inb hi1.1 hi1.2) (hk (q_ld (aload_ext X0 hld2)) hn)))))))))))))))))))))
  exact ⟨T1, h1, h2⟩
theorem r5_2_raw (q ab ob oo m co eb eo k ce i u n : Nat) (s x : Int) (M : Mem)  : oR Try.prog [] 60 Try.f5 (q5.loopAt 2) [(5, (pt q 0)), (6, (pt ab 0)), (7, (i64 (((u : Nat) : Int)))), (8, (i64 s)), (9, (sli ob oo m co)), (10, (i64 (((i : Nat) : Int))))] M [ttT 8, ttT 14, ttL 16 (i64 x), ttF 21, ttF 23, ttF 25, ttT 26, ttF 27, ttL 28 (i64 x), ttF 29, ttF 31, ttL 32 (sli eb eo k ce), ttF 33, ttF 35, ttF 38, ttF 39, ttL 45 (sli eb eo k ce), ttT 51, ttL 53 (i64 x), ttT 55, ttL 59 (i64 2)] [5, 6, 7, 8, 9, 10] = some (.normal, [some (pt q 0), some (pt ab 0), some (i64 (((u : Nat) : Int))), some (i64 (orI s (4 : Int))), some (sli ob oo m co), some (i64 (IntKind.wrap .i64 ((((i : Nat) : Int)) + (1 : Int))))], M, [qT (decide ((((i : Nat) : Int)) < (((m : Nat) : Int)))), .q (.inb (((i : Nat) : Int)) m) (ansB true), qL 3 ob (oo + (((i : Nat) : Int) : Int).toNat * 1) M (i64 x), qF (decide (x < (0 : Int))), qF (decide (x < (0 : Int))), qF (decide (x < (0 : Int))), .q (.inb (((i : Nat) : Int)) m) (ansB true), qF (decide (x < (0 : Int))), qL 3 ob (oo + (((i : Nat) : Int) : Int).toNat * 1) M (i64 x), qF (decide (x < (0 : Int))), qF (decide (x < (0 : Int))), qL 24 q 1 M (sli eb eo k ce), qF (decide (x < (0 : Int))), qF (decide (x < (0 : Int))), qF (decide (x < (0 : Int))), qF (decide (x ≥ (((k : Nat) : Int)))), qL 24 q 1 M (sli eb eo k ce), .q (.inb (((i : Nat) : Int)) m) (ansB true), qL 3 ob (oo + (((i : Nat) : Int) : Int).toNat * 1) M (i64 x), .q (.inb x k) (ansB true), qL 3 eb (eo + (x : Int).toNat * 4 + 2) M (i64 2)]) := by kernel_rfl
theorem r5_2 (q ab ob oo m co eb eo k ce i u n : Nat) (s x : Int) {M : Mem} {M0 : Mem} (X0 : Ext M0 M) (gq : M.get q = some ⟨[i64 ((n : Nat) : Int), (sli eb eo k ce)], 26, 2, 0, true⟩) (cc0 : (decide ((((i : Nat) : Int)) < (((m : Nat) : Int)))) = true) (cc1 : (decide (x < (0 : Int))) = false) (cc2 : (decide (x ≥ (((k : Nat) : Int)))) = false) (hld0 : aload Try.prog 3 ⟨ob, oo + (((i : Nat) : Int) : Int).toNat * 1, none⟩ M0 = some (i64 x)) (hi1 : 0 ≤ (x : Int) ∧ (x : Int) < k) (hld2 : aload Try.prog 3 ⟨eb, eo + (x : Int).toNat * 4 + 2, none⟩ M0 = some (i64 2)) : ∃ T1, Rd Try.prog [] (q5.loopAt 2) Try.f5.ntmps (fr [(5, (pt q 0)), (6, (pt ab 0)), (7, (i64 (((u : Nat) : Int)))), (8, (i64 s)), (9, (sli ob oo m co)), (10, (i64 (((i : Nat) : Int))))]) M .normal T1 M ∧ [5, 6, 7, 8, 9, 10].map T1.get = [some (pt q 0), some (pt ab 0), some (i64 (((u : Nat) : Int))), some (i64 (orI s (4 : Int))), some (sli ob oo m co), some (i64 (IntKind.wrap .i64 ((((i : Nat) : Int)) + (1 : Int))))] := by
  have hraw := r5_2_raw q ab ob oo m co eb eo k ce i u n s x M  
  obtain ⟨T1, h1, h2⟩ := Rd.told noNumP mixedP (specs_none Try.prog) (fun _ _ => rfl) hraw (hk (bT cc0) (hk (q_inb (by omega) (by simp at cc0; omega)) (hk (q_ld (aload_ext X0 hld0)) (hk (bF cc1) (hk (bF cc1) (hk (bF cc1) (hk (q_inb (by omega) (by simp at cc0; omega)) (hk (bF cc1) (hk (q_ld (aload_ext X0 hld0)) (hk (bF cc1) (hk (bF cc1) (hk (lC dC24 gq rfl) (hk (bF cc1) (hk (bF cc1) (hk (bF cc1) (hk (bF cc2) (hk (lC dC24 gq rfl) (hk (q_inb (by omega) (by simp at cc0; omega)) (hk (q_ld (aload_ext X0 hld0)) (hk (q_inb hi1.1 hi1.2) (hk (q_ld (aload_ext X0 hld2)) hn)))))))))))))))))))))
  exact ⟨T1, h1, h2⟩
theorem r5_3_raw (q ab ob oo m co eb eo k ce i u n : Nat) (s x : Int) (M : Mem)  : oR Try.prog [] 60 Try.f5 (q5.loopAt 2) [(5, (pt q 0)), (6, (pt ab 0)), (7, (i64 (((u : Nat) : Int)))), (8, (i64 s)), (9, (sli ob oo m co)), (10, (i64 (((i : Nat) : Int))))] M [ttT 8, ttT 14, ttL 16 (i64 x), ttF 21, ttF 23, ttF 25, ttT 26, ttF 27, ttL 28 (i64 x), ttF 29, ttF 31, ttL 32 (sli eb eo k ce), ttF 33, ttF 35, ttF 38, ttF 39, ttL 45 (sli eb eo k ce), ttT 51, ttL 53 (i64 x), ttT 55, ttL 59 (i64 3)] [5, 6, 7, 8, 9, 10] = some (.normal, [some (pt q 0), some (pt ab 0), some (i64 (((u : Nat) : Int))), some (i64 (orI s (8 : Int))), some (sli ob oo m co), some (i64 (IntKind.wrap .i64 ((((i : Nat) : Int)) + (1 : Int))))], M, [qT (decide ((((i : Nat) : Int)) < (((m : Nat) : Int)))), .q (.inb (((i : Nat) : Int)) m) (ansB true), qL 3 ob (oo + (((i : Nat) : Int) : Int).toNat * 1) M (i64 x), qF (decide (x < (0 : Int))), qF (decide (x < (0 : Int))), qF (decide (x < (0 : Int))), .q (.inb (((i : Nat) : Int)) m) (ansB true), qF (decide (x < (0 : Int))), qL 3 ob (oo + (((i : Nat) : Int) : Int).toNat * 1) M (i64 x), qF (decide (x < (0 : Int))), qF (decide (x < (0 : Int))), qL 24 q 1 M (sli eb eo k ce), qF (decide (x < (0 : Int))), qF (decide (x < (0 : Int))), qF (decide (x < (0 : Int))), qF (decide (x ≥ (((k : Nat) : Int)))), qL 24 q 1 M (sli eb eo k ce), .q (.inb (((i : Nat) : Int)) m) (ansB true), qL 3 ob (oo + (((i : Nat) : Int) : Int).toNat * 1) M (i64 x), .q (.inb x k) (ansB true), qL 3 eb (eo + (x : Int).toNat * 4 + 2) M (i64 3)]) := by kernel_rfl
theorem r5_3 (q ab ob oo m co eb eo k ce i u n : Nat) (s x : Int) {M : Mem} {M0 : Mem} (X0 : Ext M0 M) (gq : M.get q = some ⟨[i64 ((n : Nat) : Int), (sli eb eo k ce)], 26, 2, 0, true⟩) (cc0 : (decide ((((i : Nat) : Int)) < (((m : Nat) : Int)))) = true) (cc1 : (decide (x < (0 : Int))) = false) (cc2 : (decide (x ≥ (((k : Nat) : Int)))) = false) (hld0 : aload Try.prog 3 ⟨ob, oo + (((i : Nat) : Int) : Int).toNat * 1, none⟩ M0 = some (i64 x)) (hi1 : 0 ≤ (x : Int) ∧ (x : Int) < k) (hld2 : aload Try.prog 3 ⟨eb, eo + (x : Int).toNat * 4 + 2, none⟩ M0 = some (i64 3)) : ∃ T1, Rd Try.prog [] (q5.loopAt 2) Try.f5.ntmps (fr [(5, (pt q 0)), (6, (pt ab 0)), (7, (i64 (((u : Nat) : Int)))), (8, (i64 s)), (9, (sli ob oo m co)), (10, (i64 (((i : Nat) : Int))))]) M .normal T1 M ∧ [5, 6, 7, 8, 9, 10].map T1.get = [some (pt q 0), some (pt ab 0), some (i64 (((u : Nat) : Int))), some (i64 (orI s (8 : Int))), some (sli ob oo m co), some (i64 (IntKind.wrap .i64 ((((i : Nat) : Int)) + (1 : Int))))] := by
  have hraw := r5_3_raw q ab ob oo m co eb eo k ce i u n s x M  
  obtain ⟨T1, h1, h2⟩ := Rd.told noNumP mixedP (specs_none Try.prog) (fun _ _ => rfl) hraw (hk (bT cc0) (hk (q_inb (by omega) (by simp at cc0; omega)) (hk (q_ld (aload_ext X0 hld0)) (hk (bF cc1) (hk (bF cc1) (hk (bF cc1) (hk (q_inb (by omega) (by simp at cc0; omega)) (hk (bF cc1) (hk (q_ld (aload_ext X0 hld0)) (hk (bF cc1) (hk (bF cc1) (hk (lC dC24 gq rfl) (hk (bF cc1) (hk (bF cc1) (hk (bF cc1) (hk (bF cc2) (hk (lC dC24 gq rfl) (hk (q_inb (by omega) (by simp at cc0; omega)) (hk (q_ld (aload_ext X0 hld0)) (hk (q_inb hi1.1 hi1.2) (hk (q_ld (aload_ext X0 hld2)) hn)))))))))))))))))))))
  exact ⟨T1, h1, h2⟩
theorem r5_4_raw (q ab ob oo m co eb eo k ce i u n : Nat) (s x : Int) (M : Mem)  : oR Try.prog [] 60 Try.f5 (q5.loopAt 2) [(5, (pt q 0)), (6, (pt ab 0)), (7, (i64 (((u : Nat) : Int)))), (8, (i64 s)), (9, (sli ob oo m co)), (10, (i64 (((i : Nat) : Int))))] M [ttT 8, ttT 14, ttL 16 (i64 x), ttF 21, ttF 23, ttF 25, ttT 26, ttF 27, ttL 28 (i64 x), ttF 29, ttF 31, ttL 32 (sli eb eo k ce), ttF 33, ttF 35, ttF 38, ttF 39, ttL 45 (sli eb eo k ce), ttT 51, ttL 53 (i64 x), ttT 55, ttL 59 (i64 4)] [5, 6, 7, 8, 9, 10] = some (.normal, [some (pt q 0), some (pt ab 0), some (i64 (((u : Nat) : Int))), some (i64 (orI s (16 : Int))), some (sli ob oo m co), some (i64 (IntKind.wrap .i64 ((((i : Nat) : Int)) + (1 : Int))))], M, [qT (decide ((((i : Nat) : Int)) < (((m : Nat) : Int)))), .q (.inb (((i : Nat) : Int)) m) (ansB true), qL 3 ob (oo + (((i : Nat) : Int) : Int).toNat * 1) M (i64 x), qF (decide (x < (0 : Int))), qF (decide (x < (0 : Int))), qF (decide (x < (0 : Int))), .q (.inb (((i : Nat) : Int)) m) (ansB true), qF (decide (x < (0 : Int))), qL 3 ob (oo + (((i : Nat) : Int) : Int).toNat * 1) M (i64 x), qF (decide (x < (0 : Int))), qF (decide (x < (0 : Int))), qL 24 q 1 M (sli eb eo k ce), qF (decide (x < (0 : Int))), qF (decide (x < (0 : Int))), qF (decide (x < (0 : Int))), qF (decide (x ≥ (((k : Nat) : Int)))), qL 24 q 1 M (sli eb eo k ce), .q (.inb (((i : Nat) : Int)) m) (ansB true), qL 3 ob (oo + (((i : Nat) : Int) : Int).toNat * 1) M (i64 x), .q (.inb x k) (ansB true), qL 3 eb (eo + (x : Int).toNat * 4 + 2) M (i64 4)]) := by kernel_rfl
theorem r5_4 (q ab ob oo m co eb eo k ce i u n : Nat) (s x : Int) {M : Mem} {M0 : Mem} (X0 : Ext M0 M) (gq : M.get q = some ⟨[i64 ((n : Nat) : Int), (sli eb eo k ce)], 26, 2, 0, true⟩) (cc0 : (decide ((((i : Nat) : Int)) < (((m : Nat) : Int)))) = true) (cc1 : (decide (x < (0 : Int))) = false) (cc2 : (decide (x ≥ (((k : Nat) : Int)))) = false) (hld0 : aload Try.prog 3 ⟨ob, oo + (((i : Nat) : Int) : Int).toNat * 1, none⟩ M0 = some (i64 x)) (hi1 : 0 ≤ (x : Int) ∧ (x : Int) < k) (hld2 : aload Try.prog 3 ⟨eb, eo + (x : Int).toNat * 4 + 2, none⟩ M0 = some (i64 4)) : ∃ T1, Rd Try.prog [] (q5.loopAt 2) Try.f5.ntmps (fr [(5, (pt q 0)), (6, (pt ab 0)), (7, (i64 (((u : Nat) : Int)))), (8, (i64 s)), (9, (sli ob oo m co)), (10, (i64 (((i : Nat) : Int))))]) M .normal T1 M ∧ [5, 6, 7, 8, 9, 10].map T1.get = [some (pt q 0), some (pt ab 0), some (i64 (((u : Nat) : Int))), some (i64 (orI s (16 : Int))), some (sli ob oo m co), some (i64 (IntKind.wrap .i64 ((((i : Nat) : Int)) + (1 : Int))))] := by
  have hraw := r5_4_raw q ab ob oo m co eb eo k ce i u n s x M  
  obtain ⟨T1, h1, h2⟩ := Rd.told noNumP mixedP (specs_none Try.prog) (fun _ _ => rfl) hraw (hk (bT cc0) (hk (q_inb (by omega) (by simp at cc0; omega)) (hk (q_ld (aload_ext X0 hld0)) (hk (bF cc1) (hk (bF cc1) (hk (bF cc1) (hk (q_inb (by omega) (by simp at cc0; omega)) (hk (bF cc1) (hk (q_ld (aload_ext X0 hld0)) (hk (bF cc1) (hk (bF cc1) (hk (lC dC24 gq rfl) (hk (bF cc1) (hk (bF cc1) (hk (bF cc1) (hk (bF cc2) (hk (lC dC24 gq rfl) (hk (q_inb (by omega) (by simp at cc0; omega)) (hk (q_ld (aload_ext X0 hld0)) (hk (q_inb hi1.1 hi1.2) (hk (q_ld (aload_ext X0 hld2)) hn)))))))))))))))))))))
  exact ⟨T1, h1, h2⟩
theorem r5x_raw (q ab m co i u : Nat) (ao : Option Addr) (s : Int) (M : Mem)  : oR Try.prog [] 60 Try.f5 (q5.loopAt 2) [(5, (pt q 0)), (6, (pt ab 0)), (7, (i64 (((u : Nat) : Int)))), (8, (i64 s)), (9, (.slice ao m co)), (10, (i64 (((i : Nat) : Int))))] M [ttT 5, ttF 8] [5, 6, 7, 8] = some ((.exit 2), [some (pt q 0), some (pt ab 0), some (i64 (((u : Nat) : Int))), some (i64 s)], M, [.ln ao m co, qF (decide ((((i : Nat) : Int)) < (((m : Nat) : Int))))]) := by kernel_rfl
theorem r5x (q ab m co i u : Nat) (ao : Option Addr) (s : Int) {M : Mem} (hln : ao.isNone = true → m = 0 ∧ co = 0) (cc0 : (decide ((((i : Nat) : Int)) < (((m : Nat) : Int)))) = false) : ∃ T1, Rd Try.prog [] (q5.loopAt 2) Try.f5.ntmps (fr [(5, (pt q 0)), (6, (pt ab 0)), (7, (i64 (((u : Nat) : Int)))), (8, (i64 s)), (9, (.slice ao m co)), (10, (i64 (((i : Nat) : Int))))]) M (.exit 2) T1 M ∧ [5, 6, 7, 8].map T1.get = [some (pt q 0), some (pt ab 0), some (i64 (((u : Nat) : Int))), some (i64 s)] := by
  have hraw := r5x_raw q ab m co i u ao s M  
  obtain ⟨T1, h1, h2⟩ := Rd.told noNumP mixedP (specs_none Try.prog) (fun _ _ => rfl) hraw (hk (lN hln) (hk (bF cc0) hn))
  exact ⟨T1, h1, h2⟩
theorem loop5i {q ab u n : Nat} {ae : Option Addr} {ce : Nat} {S : Value} {l : List E4} {o : List Int} {M : Mem} (hM : MemOk M) (gq : M.get q = some ⟨[i64 ((n : Nat) : Int), .slice ae l.length ce], 26, 2, 0, true⟩) (he : pEdges l (.slice ae l.length ce) M) (ho : pInts o S M) (hm : ∀ x ∈ o, ∃ e, 0 ≤ x ∧ x < ((l.length : Nat) : Int) ∧ l[x.toNat]? = some e) (hok : ∀ e ∈ l, okM e) (hol : o.length ≤ 800) :
    ∃ M', LoopR Try.prog [] (q5.loopAt 2) Try.f5.ntmps (fr [(5, pt q 0), (6, pt ab 0), (7, i64 ((u : Nat) : Int)), (8, i64 ((0 : Nat) : Int)), (9, S), (10, i64 ((0 : Nat) : Int))]) M (.exit 2) (fr [(5, pt q 0), (6, pt ab 0), (7, i64 ((u : Nat) : Int)), (8, i64 (unionI (adjM n l).set o))]) M' ∧ Ext M M' ∧ MemOk M' := by
  obtain ⟨ao, co, rfl⟩ := GRowsAt.form ho
  obtain ⟨_, M', h1, h2, h3, _⟩ := LoopR.for (P := Try.prog) (GL := []) (b := q5.loopAt 2) (nt := Try.f5.ntmps) (id := 2) (σ := Unit) (n := o.length) (Inv := fun i _ M1 => Ext M M1 ∧ MemOk M1 ∧ M1.get q = some ⟨[i64 ((n : Nat) : Int), .slice ae l.length ce], 26, 2, 0, true⟩)
    (F := fun i _ => [(5, pt q 0), (6, pt ab 0), (7, i64 ((u : Nat) : Int)), (8, i64 (unionI (adjM n l).set (o.take i))), (9, .slice ao o.length co), (10, i64 ((i : Nat) : Int))]) (O := fun _ => [(5, pt q 0), (6, pt ab 0), (7, i64 ((u : Nat) : Int)), (8, i64 (unionI (adjM n l).set (o.take o.length)))])
    (by
      rintro i _ M1 hi ⟨X1, hM1, hg⟩
      obtain ⟨e, c1, c2, c3⟩ := hm _ (List.getElem_mem hi)
      obtain ⟨ob, oo, rfl, _⟩ := form_pos ho (by omega)
      obtain ⟨eb, eo, rfl, _⟩ := form_pos he (by omega)
      have lx := ld_one (P := Try.prog) (ty := 3) ho (List.getElem?_eq_getElem hi) rfl dC3
      have le := ld_cell (P := Try.prog) (ty := 3) (j := 2) he c3 rfl dC3
      have hmm := hok e (List.mem_of_getElem? c3)
      rw [union_step hi c3]
      have hmk : e.m = 0 ∨ e.m = 1 ∨ e.m = 2 ∨ e.m = 3 ∨ e.m = 4 := by unfold okM at hmm; omega
      rcases hmk with hkk | hkk | hkk | hkk | hkk <;> rw [hkk] at le ⊢
      · obtain ⟨T1, h1, h2⟩ := r5_0 q ab ob oo o.length co eb eo l.length ce i u n (unionI (adjM n l).set (o.take i)) o[i] (M := M1) X1 hg (decide_eq_true (by omega)) (decide_eq_false (by omega)) (decide_eq_false (by omega)) lx ⟨c1, c2⟩ le
        rw [wrap_succ (by omega)] at h2
        exact ⟨(), T1, M1, h1, h2, X1, hM1, hg⟩
      · obtain ⟨T1, h1, h2⟩ := r5_1 q ab ob oo o.length co eb eo l.length ce i u n (unionI (adjM n l).set (o.take i)) o[i] (M := M1) X1 hg (decide_eq_true (by omega)) (decide_eq_false (by omega)) (decide_eq_false (by omega)) lx ⟨c1, c2⟩ le
        rw [wrap_succ (by omega)] at h2
        exact ⟨(), T1, M1, h1, h2, X1, hM1, hg⟩
      · obtain ⟨T1, h1, h2⟩ := r5_2 q ab ob oo o.length co eb eo l.length ce i u n (unionI (adjM n l).set (o.take i)) o[i] (M := M1) X1 hg (decide_eq_true (by omega)) (decide_eq_false (by omega)) (decide_eq_false (by omega)) lx ⟨c1, c2⟩ le
        rw [wrap_succ (by omega)] at h2
        exact ⟨(), T1, M1, h1, h2, X1, hM1, hg⟩
      · obtain ⟨T1, h1, h2⟩ := r5_3 q ab ob oo o.length co eb eo l.length ce i u n (unionI (adjM n l).set (o.take i)) o[i] (M := M1) X1 hg (decide_eq_true (by omega)) (decide_eq_false (by omega)) (decide_eq_false (by omega)) lx ⟨c1, c2⟩ le
        rw [wrap_succ (by omega)] at h2
        exact ⟨(), T1, M1, h1, h2, X1, hM1, hg⟩
      · obtain ⟨T1, h1, h2⟩ := r5_4 q ab ob oo o.length co eb eo l.length ce i u n (unionI (adjM n l).set (o.take i)) o[i] (M := M1) X1 hg (decide_eq_true (by omega)) (decide_eq_false (by omega)) (decide_eq_false (by omega)) lx ⟨c1, c2⟩ le
        rw [wrap_succ (by omega)] at h2
        exact ⟨(), T1, M1, h1, h2, X1, hM1, hg⟩)
    (by
      rintro _ M1 ⟨X1, hM1, hg⟩
      exact r5x q ab o.length co o.length u ao (unionI (adjM n l).set (o.take o.length)) (M := M1) ho.ln (decide_eq_false (by omega)))
    o.length 0 (by omega) (s := ()) (M := M) ⟨Ext.refl M, hM, gq⟩
  rw [List.take_length] at h1
  exact ⟨M', h1, h2, h3⟩
theorem hS5_13_14_18 (B : Bd) : ∀ p ∈ ([(13, pick (Con Try.prog [] 13 Q13)), (14, pick (Con Try.prog [] 14 Q14)), (18, pick (Con Try.prog [] 18 Q18))] : List (FuncId × (List Value → Mem → Option (Value × Mem)))), SpecOk Try.prog [] B p.1 p.2 := (fun p hp => by simp only [List.mem_cons, List.not_mem_nil, or_false] at hp; rcases hp with rfl | rfl | rfl <;> first | exact Con.ok _)
theorem o5_raw (q ab i n ce : Nat) (ae : Option Addr) (l : List E4) (M : Mem) (b1 : Nat) (M2 : Mem) (a11 : Option Addr) (c12 : Nat) (M16 : Mem) (t27 : Bool) (S28 : Value) (M29 : Mem) (a36 : Option Addr) (c37 : Nat) (M41 : Mem) (t52 : Bool) (S53 : Value) (M54 : Mem) (M60 : Mem) (M69 : Mem) : oR Try.prog [2] 120 Try.f5 (q5.loopAt 0) [(5, (pt q 0)), (6, (pt ab 0)), (7, (i64 (((i : Nat) : Int))))] M [ttL 5 (i64 (((n : Nat) : Int))), ttT 8, ttV 12 (sli b1 0 0 1) M2, ttV 18 (.slice a11 (refRow .fr l ((i : Nat) : Int) l.length).length c12) M16, .at 20 ((bif t27 then 1 else 2), .val S28, M29), ttV 26 (.slice a36 (refRow .to l ((i : Nat) : Int) l.length).length c37) M41, .at 28 ((bif t52 then 1 else 2), .val S53, M54), .blk 33 [5, 6, 7, 8, 9, 10] .normal (fr [(5, (pt q 0)), (6, (pt ab 0)), (7, (i64 (((i : Nat) : Int)))), (8, (i64 (unionI (adjM n l).set (refRow .fr l ((i : Nat) : Int) l.length ++ refRow .to l ((i : Nat) : Int) l.length))))]) M60, ttV 39 (i64 (unionI (adjM n l).set (refRow .fr l ((i : Nat) : Int) l.length ++ refRow .to l ((i : Nat) : Int) l.length))) M69, ttF 44] [5, 6, 7] = some (.normal, [some (pt q 0), some (pt ab 0), some (i64 (IntKind.wrap .i64 ((((i : Nat) : Int)) + (1 : Int))))], M69, [qL 3 q 0 M (i64 (((n : Nat) : Int))), qT (decide ((((i : Nat) : Int)) < (((n : Nat) : Int)))), .eq (abuildSlice Try.prog 22 0 [] M) (1, .val (sli b1 0 0 1), M2), qC 13 [(pt ab 0), (i64 (((i : Nat) : Int)))] M2 (.slice a11 (refRow .fr l ((i : Nat) : Int) l.length).length c12) M16, .q (.append [22, 22] (sli b1 0 0 1) (.slice a11 (refRow .fr l ((i : Nat) : Int) l.length).length c12) M16) ((bif t27 then 1 else 2), .val S28, M29), qC 14 [(pt ab 0), (i64 (((i : Nat) : Int)))] M29 (.slice a36 (refRow .to l ((i : Nat) : Int) l.length).length c37) M41, .q (.append [22, 22] S28 (.slice a36 (refRow .to l ((i : Nat) : Int) l.length).length c37) M41) ((bif t52 then 1 else 2), .val S53, M54), .blk 2 (.loop (q5.loopAt 2)) Try.f5.ntmps [5, 6, 7, 8, 9, 10] [some (pt q 0), some (pt ab 0), some (i64 (((i : Nat) : Int))), some (i64 0), some S53, some (i64 0)] M54 .normal (fr [(5, (pt q 0)), (6, (pt ab 0)), (7, (i64 (((i : Nat) : Int)))), (8, (i64 (unionI (adjM n l).set (refRow .fr l ((i : Nat) : Int) l.length ++ refRow .to l ((i : Nat) : Int) l.length))))]) M60, qC 18 [(pt ab 0), (i64 (((i : Nat) : Int)))] M60 (i64 (unionI (adjM n l).set (refRow .fr l ((i : Nat) : Int) l.length ++ refRow .to l ((i : Nat) : Int) l.length))) M69, qF (!((unionI (adjM n l).set (refRow .fr l ((i : Nat) : Int) l.length ++ refRow .to l ((i : Nat) : Int) l.length)) == (unionI (adjM n l).set (refRow .fr l ((i : Nat) : Int) l.length ++ refRow .to l ((i : Nat) : Int) l.length))))]) := by cases t27 <;> cases t52 <;> kernel_rfl
theorem o5 (q ab i n ce : Nat) (ae : Option Addr) (l : List E4) {M M0 : Mem} (hM : MemOk M) (X0 : Ext M0 M) (gq : M.get q = some ⟨[i64 ((n : Nat) : Int), (.slice ae l.length ce)], 26, 2, 0, true⟩) (gq0 : M0.get q = some ⟨[i64 ((n : Nat) : Int), (.slice ae l.length ce)], 26, 2, 0, true⟩) (he : pEdges l (.slice ae l.length ce) M0) (hadj : pAdj 48 (adjM n l) (pt ab 0) M0) (hok : okA (adjM n l)) (hck : chkN ((n : Nat) : Int) l = true) (cc0 : (decide ((((i : Nat) : Int)) < (((n : Nat) : Int)))) = true) : ∃ T1 M', Rd Try.prog [] (q5.loopAt 0) Try.f5.ntmps (fr [(5, (pt q 0)), (6, (pt ab 0)), (7, (i64 (((i : Nat) : Int))))]) M .normal T1 M' ∧ [5, 6, 7].map T1.get = [some (pt q 0), some (pt ab 0), some (i64 (IntKind.wrap .i64 ((((i : Nat) : Int)) + (1 : Int))))] ∧ Ext M0 M' ∧ MemOk M' ∧ M'.get q = some ⟨[(i64 (((n : Nat) : Int))), (.slice ae l.length ce)], 26, 2, 0, true⟩ := by
  obtain ⟨b1, M2, eb3, em4, g5, E6, hM7⟩ := new_t hM ⟨[], 3, 1, 0, true⟩
  have nb1 : M0.next ≤ b1 := by rw [← eb3]; exact X0.next
  have dqb1 : q ≠ b1 := by have := Mem.lt_of_get gq; omega
  have X10 := X0.trans E6
  obtain ⟨w14, N15, M16, p17, l18, e19, E20, hM21, F22⟩ := call_fc (x := (adjM n l, ((i : Nat) : Int))) hM7 con13 (⟨⟨_, _, rfl, AP.Ext (R := (pAdj 48)) hadj X10, rfl⟩, hok⟩)
  have g25 := E20.old g5
  have G13 : pInts (refRow .fr l ((i : Nat) : Int) l.length) w14 M16 := by rw [← out_eq hck ⟨by omega, by simp at cc0; omega⟩]; exact newR.out (R := pInts) F22
  obtain ⟨a11, c12, ew14⟩ := GRowsAt.form G13
  subst ew14
  have X26 := X10.trans E20
  have A35 : AccD 3 1 M0 0 [] (sli b1 0 0 1) M16 := .inl ⟨b1, rfl, rfl, rfl, nb1, g25⟩
  obtain ⟨t27, S28, M29, q30, X31, hM32, A33⟩ := accd_row (P := Try.prog) (sT := 22) (xT := 22) (y := 8) A35 X26 hM21 (by kernel_rfl) (by kernel_rfl) (by kernel_rfl) (by kernel_rfl) (by decide) (by decide) rfl G13 (by have h1 := refRow_len .fr l ((i : Nat) : Int) l.length; have h2 := refRow_len .to l ((i : Nat) : Int) l.length; have h3 := (chkN_spec hck).2.2.1; omega) (fun _ _ => rfl)
  obtain ⟨w39, N40, M41, p42, l43, e44, E45, hM46, F47⟩ := call_fc (x := (adjM n l, ((i : Nat) : Int))) hM32 con14 (⟨⟨_, _, rfl, AP.Ext (R := (pAdj 48)) hadj X31, rfl⟩, hok⟩)
  have G38 : pInts (refRow .to l ((i : Nat) : Int) l.length) w39 M41 := by rw [← in_eq hck ⟨by omega, by simp at cc0; omega⟩]; exact newR.out (R := pInts) F47
  obtain ⟨a36, c37, ew39⟩ := GRowsAt.form G38
  subst ew39
  have A50 := AccD.ext A33 E45
  have X51 := X31.trans E45
  obtain ⟨t52, S53, M54, q55, X56, hM57, A58⟩ := accd_row (P := Try.prog) (sT := 22) (xT := 22) (y := 8) A50 X51 hM46 (by kernel_rfl) (by kernel_rfl) (by kernel_rfl) (by kernel_rfl) (by decide) (by decide) rfl G38 (by have h1 := refRow_len .fr l ((i : Nat) : Int) l.length; have h2 := refRow_len .to l ((i : Nat) : Int) l.length; have h3 := (chkN_spec hck).2.2.1; omega) (fun _ _ => rfl)
  have g59 := (X56).old gq0
  obtain ⟨M60, hL61, E62, hM63⟩ := loop5i hM57 g59 (AP.Ext (R := pEdges) he X56) (o := (refRow .fr l ((i : Nat) : Int) l.length ++ refRow .to l ((i : Nat) : Int) l.length)) (AccD.row (g := iRow) A58 (by simp) (by simp) (fun _ _ => rfl) (by have h1 := refRow_len .fr l ((i : Nat) : Int) l.length; have h2 := refRow_len .to l ((i : Nat) : Int) l.length; have h3 := (chkN_spec hck).2.2.1; omega)) (fun x hx => by rcases List.mem_append.1 hx with hx | hx <;> (obtain ⟨e, k1, k2, k3, _⟩ := refRow_in hx; exact ⟨e, k1, k2, k3⟩)) (fun e hee => ((chkN_spec hck).2.2.2 e hee).2.2.2.2) (by rw [List.length_append]; have h1 := refRow_len .fr l ((i : Nat) : Int) l.length; have h2 := refRow_len .to l ((i : Nat) : Int) l.length; have h3 := (chkN_spec hck).2.2.1; omega)
  have g65 := E62.old g59
  have X66 := X56.trans E62
  obtain ⟨w67, N68, M69, p70, l71, e72, E73, hM74, F75⟩ := call_fc (x := (adjM n l, ((i : Nat) : Int))) hM63 con18 (⟨⟨_, _, rfl, AP.Ext (R := (pAdj 48)) hadj X66, rfl⟩, hok⟩)
  have g77 := E73.old g65
  have ew67 : w67 = (i64 (unionI (adjM n l).set (refRow .fr l ((i : Nat) : Int) l.length ++ refRow .to l ((i : Nat) : Int) l.length))) := (show w67 = i64 (modesI (adjM n l) ((i : Nat) : Int)) from F75).trans (congrArg i64 (modes_union hck ⟨by omega, by simp at cc0; omega⟩))
  subst ew67
  have X78 := X66.trans E73
  have hraw := o5_raw q ab i n ce ae l M  b1 M2 a11 c12 M16 t27 S28 M29 a36 c37 M41 t52 S53 M54 M60 M69
  obtain ⟨T1, h1, h2⟩ := Rd.told noNumP mixedP (fun B => specsB_ok (hS5_13_14_18 B) (k := [(2, bone (.loop (q5.loopAt 2)) Try.f5.ntmps [5, 6, 7, 8, 9, 10] [some (pt q 0), some (pt ab 0), some (i64 (((i : Nat) : Int))), some (i64 0), some S53, some (i64 0)] M54 .normal (fr [(5, (pt q 0)), (6, (pt ab 0)), (7, (i64 (((i : Nat) : Int)))), (8, (i64 (unionI (adjM n l).set (refRow .fr l ((i : Nat) : Int) l.length ++ refRow .to l ((i : Nat) : Int) l.length))))]) M60)]) (fun p hp => by simp only [List.mem_cons, List.not_mem_nil, or_false] at hp; rcases hp with rfl <;> first | exact BlkOk.loop noNumP mixedP hL61)) (fun _ h => blksF_one h) hraw (hk (lC dC3 gq rfl) (hk (bT cc0) (hk (q_eq (by rw [← eb3, ← em4]; kernel_rfl) Nat.one_ne_zero) (hk (q_call rfl p17 l18 e19) (hk (q_app q30 (by cases t27 <;> simp)) (hk (q_call rfl p42 l43 e44) (hk (q_app q55 (by cases t52 <;> simp)) (hk (q_blk rfl) (hk (q_call rfl p70 l71 e72) (hk (bF (by first | simp_all | (simp; omega))) hn))))))))))
  exact ⟨T1, M69, h1, h2, X78, hM74, g77⟩
theorem o5x_raw (q ab i n ce : Nat) (ae : Option Addr) (l : List E4) (M : Mem)  : oR Try.prog [] 60 Try.f5 (q5.loopAt 0) [(5, (pt q 0)), (6, (pt ab 0)), (7, (i64 (((i : Nat) : Int))))] M [ttL 5 (i64 (((n : Nat) : Int))), ttF 8] [] = some ((.exit 0), [], M, [qL 3 q 0 M (i64 (((n : Nat) : Int))), qF (decide ((((i : Nat) : Int)) < (((n : Nat) : Int))))]) := by kernel_rfl
theorem o5x (q ab i n ce : Nat) (ae : Option Addr) (l : List E4) {M : Mem} (gq : M.get q = some ⟨[i64 ((n : Nat) : Int), (.slice ae l.length ce)], 26, 2, 0, true⟩) (cc0 : (decide ((((i : Nat) : Int)) < (((n : Nat) : Int)))) = false) : ∃ T1, Rd Try.prog [] (q5.loopAt 0) Try.f5.ntmps (fr [(5, (pt q 0)), (6, (pt ab 0)), (7, (i64 (((i : Nat) : Int))))]) M (.exit 0) T1 M ∧ [].map T1.get = [] := by
  have hraw := o5x_raw q ab i n ce ae l M  
  obtain ⟨T1, h1, h2⟩ := Rd.told noNumP mixedP (specs_none Try.prog) (fun _ _ => rfl) hraw (hk (lC dC3 gq rfl) (hk (bF cc0) hn))
  exact ⟨T1, h1, h2⟩
theorem loop5 {q ab n : Nat} {ae : Option Addr} {ce : Nat} {l : List E4} {M : Mem} (hM : MemOk M) (gq : M.get q = some ⟨[i64 ((n : Nat) : Int), .slice ae l.length ce], 26, 2, 0, true⟩) (he : pEdges l (.slice ae l.length ce) M) (hadj : pAdj 48 (adjM n l) (pt ab 0) M) (hck : chkN ((n : Nat) : Int) l = true) :
    ∃ M', LoopR Try.prog [] (q5.loopAt 0) Try.f5.ntmps (fr [(5, pt q 0), (6, pt ab 0), (7, i64 ((0 : Nat) : Int))]) M (.exit 0) (fr []) M' ∧ Ext M M' ∧ MemOk M' := by
  have hok := okA_adjM hck
  obtain ⟨k1, k2, k3, _⟩ := chkN_spec hck
  obtain ⟨_, M', h1, h2, h3, _⟩ := LoopR.for (P := Try.prog) (GL := []) (b := q5.loopAt 0) (nt := Try.f5.ntmps) (id := 0) (σ := Unit) (n := n) (Inv := fun i _ M1 => Ext M M1 ∧ MemOk M1 ∧ M1.get q = some ⟨[i64 ((n : Nat) : Int), .slice ae l.length ce], 26, 2, 0, true⟩)
    (F := fun i _ => [(5, pt q 0), (6, pt ab 0), (7, i64 ((i : Nat) : Int))])
    (O := fun _ => [])
    (by
      rintro i _ M1 hi ⟨X1, hM1, hg⟩
      obtain ⟨T1, M2, h1, h2, h3, h4, h5⟩ := o5 q ab i n ce ae l hM1 (Ext.refl M1) hg hg (AP.Ext (R := pEdges) he X1) (AP.Ext (R := (pAdj 48)) hadj X1) hok hck (decide_eq_true (by omega))
      rw [wrap_succ (by omega)] at h2
      exact ⟨(), T1, M2, h1, h2, X1.trans h3, h4, h5⟩)
    (by
      rintro _ M1 ⟨X1, hM1, hg⟩
      exact o5x q ab n n ce ae l (M := M1) hg (decide_eq_false (by omega)))
    n 0 (by omega) (s := ()) (M := M) ⟨Ext.refl M, hM, gq⟩
  exact ⟨M', h1, h2, h3⟩
theorem rK5 : Try.f5.results = #[.tmp 4] := by kernel_rfl
theorem hS5_10_11_12 (B : Bd) : ∀ p ∈ ([(10, pick (Con Try.prog [] 10 Q10)), (11, pick (Con Try.prog [] 11 Q11)), (12, pick (Con Try.prog [] 12 Q12))] : List (FuncId × (List Value → Mem → Option (Value × Mem)))), SpecOk Try.prog [] B p.1 p.2 := (fun p hp => by simp only [List.mem_cons, List.not_mem_nil, or_false] at hp; rcases hp with rfl | rfl | rfl <;> first | exact Con.ok _)
theorem w5_raw (size : Int) (ans : Option Addr) (cns : Nat) (ns : List Int) (M : Mem) (M3 : Mem) (a12 : Option Addr) (c13 : Nat) (M18 : Mem) (b27 : Nat) (M28 : Mem) (M37 : Mem) (ab45 : Nat) (M49 : Mem) (M60 : Mem) : oT Try.prog [0] 100 Try.f5 q5 [(i64 size), (.slice ans ns.length cns)] M [ttV 3 (.bool true) M3, ttV 12 (.agg ⟨[(i64 ((((nMk size) : Nat) : Int))), (.slice a12 (mkL size ns 2).length c13)]⟩) M18, ttV 14 (pt b27 0) M28, ttS 16 M37, ttL 18 (.agg ⟨[(i64 ((((nMk size) : Nat) : Int))), (.slice a12 (mkL size ns 2).length c13)]⟩), ttV 20 (pt ab45 0) M49, .blk 30 [5, 6, 7] .normal (fr []) M60] 4 = some (.ret, some (.bool true), M60, [qC 10 [] M (.bool true) M3, qC 11 [(i64 size), (.slice ans ns.length cns), (i64 2)] M3 (.agg ⟨[(i64 ((((nMk size) : Nat) : Int))), (.slice a12 (mkL size ns 2).length c13)]⟩) M18, .eq (aalloc Try.prog 26 M18) (1, .val (pt b27 0), M28), qS 26 b27 0 (.agg ⟨[(i64 ((((nMk size) : Nat) : Int))), (.slice a12 (mkL size ns 2).length c13)]⟩) M28 M37, qL 26 b27 0 M37 (.agg ⟨[(i64 ((((nMk size) : Nat) : Int))), (.slice a12 (mkL size ns 2).length c13)]⟩), qC 12 [(.agg ⟨[(i64 ((((nMk size) : Nat) : Int))), (.slice a12 (mkL size ns 2).length c13)]⟩)] M37 (pt ab45 0) M49, .blk 0 (.loop (q5.loopAt 0)) Try.f5.ntmps [5, 6, 7] [some (pt b27 0), some (pt ab45 0), some (i64 0)] M49 .normal (fr []) M60]) := by kernel_rfl
theorem w5 (size : Int) (ans : Option Addr) (cns : Nat) (ns : List Int) {M : Mem} (hM : MemOk M) (hns : pInts ns (.slice ans ns.length cns) M) : ∃ v_ M', Ev Try.prog [] 5 [(i64 size), (.slice ans ns.length cns)] M v_ M' ∧ Ext M M' ∧ MemOk M' ∧ v_ = .bool true := by
  obtain ⟨w1, N2, M3, p4, l5, e6, E7, hM8, F9⟩ := call_fc (x := ()) hM con10 (rfl)
  have nx10 := E7.next
  have ew1 : w1 = (.bool true) := F9
  subst ew1
  have X11 := (Ext.refl M).trans E7
  obtain ⟨w16, N17, M18, p19, l20, e21, E22, hM23, F24⟩ := call_fc (x := (size, ns, 2)) hM8 con11 (⟨_, _, _, rfl, rfl, AP.Ext (R := pInts) hns X11, rfl⟩)
  have nx25 := E22.next
  obtain ⟨L15, ew16, G14⟩ : pNetN ((nMk size), (mkL size ns 2)) w16 (hidx [(0, M3.next)] M18) := hx_of F24
  simp only at ew16 G14
  obtain ⟨a12, c13, eL15⟩ := GRowsAt.form G14
  subst eL15
  subst ew16
  have X26 := X11.trans E22
  obtain ⟨b27, M28, eb29, em30, g31, E32, hM33⟩ := new_t hM23 ⟨[(i64 0), sln], 26, 2, 0, true⟩
  have nb27 : M.next ≤ b27 := by rw [← eb29]; exact X26.next
  have F34 := hx_new (R := pEdges) G14 eb29 E32
  have nx35 := E32.next
  have X36 := X26.trans E32
  obtain ⟨M37, q38, g39, kp40, X41, hM42, nx43⟩ := store_t (o := 0) (v := (.agg ⟨[(i64 ((((nMk size) : Nat) : Int))), (.slice a12 (mkL size ns 2).length c13)]⟩)) (new := [(i64 ((((nMk size) : Nat) : Int))), (.slice a12 (mkL size ns 2).length c13)]) X36 nb27 hM33 dS26 g31 rfl rfl (Nat.zero_le _) (Nat.le_of_ble_eq_true rfl) rfl
  replace g39 : M37.get b27 = some ⟨[(i64 ((((nMk size) : Nat) : Int))), (.slice a12 (mkL size ns 2).length c13)], 26, 2, 0, true⟩ := g39
  have F44 := hx_keep (R := pEdges) F34 (fun id h _ => kp40 id h) (by intro id hh; simp only [hidden_con] at hh; omega)
  have ltb27M49 := Mem.lt_of_get g39
  obtain ⟨w47, N48, M49, p50, l51, e52, E53, hM54, F55⟩ := call_fc (x := ((nMk size), (mkL size ns 2))) hM42 con12 (⟨⟨_, rfl, _, rfl, hx_out (R := pEdges) F44⟩, mk_chk _ _ _⟩)
  have nx56 := E53.next
  have F57 := hx_ext (R := pEdges) F44 E53
  have g58 := E53.old g39
  have G46 : pAdj 48 (adjM (nMk size) (mkL size ns 2)) w47 (hidx [(0, M37.next)] M49) := hx_of F55
  obtain ⟨ab45, _, _, _, _, ew47, _⟩ := id G46
  subst ew47
  have X59 := X41.trans E53
  obtain ⟨M60, hL61, E62, hM63⟩ := loop5 hM54 g58 (hx_out (R := pEdges) F57) (hx_out (R := pAdj 48) G46) (mk_chk size ns 2)
  have nx64 := E62.next
  have X68 := X59.trans E62
  have hraw := w5_raw size ans cns ns M  M3 a12 c13 M18 b27 M28 M37 ab45 M49 M60
  exact ⟨(.bool true), M60, Ev.told_tmp noNumP mixedP Try.func5 q5_ok (by kernel_rfl) rK5 (fun B => specsB_ok (hS5_10_11_12 B) (k := [(0, bone (.loop (q5.loopAt 0)) Try.f5.ntmps [5, 6, 7] [some (pt b27 0), some (pt ab45 0), some (i64 0)] M49 .normal (fr []) M60)]) (fun p hp => by simp only [List.mem_cons, List.not_mem_nil, or_false] at hp; rcases hp with rfl <;> first | exact BlkOk.loop noNumP mixedP hL61)) (fun _ h => blksF_one h) hraw (hk (q_call rfl p4 l5 e6) (hk (q_call rfl p19 l20 e21) (hk (q_eq (by rw [← eb29, ← em30]; kernel_rfl) Nat.one_ne_zero) (hk (q_st q38) (hk (lA ⟨dA26, dS26⟩ g39 rfl) (hk (q_call rfl p50 l51 e52) (hk (q_blk rfl) hn))))))), X68, hM63, rfl⟩
end Go.Proofs.Ytipnhelkganmdaa
