/-
  Package adj: each of its laws for every argument; no conditions. The last text states which.
-/
import Derived.Test.YtipnhelkganmdaaGUP1
import Derived.Test.YtipnhelkganmdaaGAmBk
set_option linter.unusedVariables false
set_option linter.unusedSimpArgs false
open Go Go.Am Go.Proofs
namespace Go.Proofs.Ytipnhelkganmdaa
set_option maxRecDepth 100000
set_option linter.unusedVariables false
set_option linter.unusedSimpArgs false
theorem dC22 : (Try.prog.underlying 22).map isAggD = some false := by kernel_rfl
theorem dS22 : (Try.prog.info? 22).map (·.size) = some 1 := by kernel_rfl
theorem rA45_raw (C n bb o m c i : Nat) (x z : Int) (cc : List Value) (M : Mem) (M1 : Mem) : oR Try.prog [] 51 Try.f36 (q36.loopAt 0) [(0, (i64 (((n : Nat) : Int)))), (1, (sli bb o m c)), (5, (sli C 0 n (n + 1))), (15, (sli bb o m c)), (16, (i64 (((m : Nat) : Int)))), (17, (i64 (((i : Nat) : Int))))] M [ttT 2, ttT 4, ttL 6 (i64 x), ttT 14, ttL 16 (i64 z), ttT 20, ttS 22 M1] [0, 1, 5, 15, 16, 17] = some (.normal, [some (i64 (((n : Nat) : Int))), some (sli bb o m c), some (sli C 0 n (n + 1)), some (sli bb o m c), some (i64 (((m : Nat) : Int))), some (i64 (IntKind.wrap .i64 ((((i : Nat) : Int)) + (1 : Int))))], M1, [qT (decide ((((i : Nat) : Int)) < (((m : Nat) : Int)))), .q (.inb (((i : Nat) : Int)) m) (ansB true), qL 3 bb (o + (((i : Nat) : Int) : Int).toNat * 1) M (i64 x), .q (.inb x n) (ansB true), qL 3 C (0 + (x : Int).toNat * 1) M (i64 z), .q (.inb x n) (ansB true), qS 3 C (0 + (x : Int).toNat * 1) (i64 (IntKind.wrap .i64 (z + (1 : Int)))) M M1]) := by kernel_rfl
theorem rA45 (C n bb o m c i : Nat) (x z : Int) (cc : List Value) {M M0 : Mem} (hM : MemOk M) (X0 : Ext M0 M) (hC : M0.next ≤ C) (gC : M.get C = some ⟨cc, 3, 1, 0, true⟩) (cc0 : (decide ((((i : Nat) : Int)) < (((m : Nat) : Int)))) = true) (hld0 : aload Try.prog 3 ⟨bb, o + (((i : Nat) : Int) : Int).toNat * 1, none⟩ M0 = some (i64 x)) (hi1 : 0 ≤ (x : Int) ∧ (x : Int) < n) (hc2 : (cc)[0 + (x : Int).toNat * 1]? = some (i64 z)) (hof3 : 0 + (x : Int).toNat * 1 + 1 ≤ (cc).length) : ∃ T1 M', Rd Try.prog [] (q36.loopAt 0) Try.f36.ntmps (fr [(0, (i64 (((n : Nat) : Int)))), (1, (sli bb o m c)), (5, (sli C 0 n (n + 1))), (15, (sli bb o m c)), (16, (i64 (((m : Nat) : Int)))), (17, (i64 (((i : Nat) : Int))))]) M .normal T1 M' ∧ [0, 1, 5, 15, 16, 17].map T1.get = [some (i64 (((n : Nat) : Int))), some (sli bb o m c), some (sli C 0 n (n + 1)), some (sli bb o m c), some (i64 (((m : Nat) : Int))), some (i64 (IntKind.wrap .i64 ((((i : Nat) : Int)) + (1 : Int))))] ∧ Ext M0 M' ∧ MemOk M' ∧ M'.get C = some ⟨(splice cc (0 + (x : Int).toNat * 1) [(i64 (IntKind.wrap .i64 (z + (1 : Int))))]), 3, 1, 0, true⟩ ∧ ∀ id k, M.get id = some k → id ≠ C → M'.get id = some k := by
  obtain ⟨M1, q2, g3, kp4, X5, hM6, nx7⟩ := store_t (o := 0 + (x : Int).toNat * 1) (v := (i64 (IntKind.wrap .i64 (z + (1 : Int))))) (new := splice cc (0 + (x : Int).toNat * 1) [(i64 (IntKind.wrap .i64 (z + (1 : Int))))]) X0 hC hM dS3 gC rfl rfl (Nat.zero_le _) hof3 rfl
  replace g3 : M1.get C = some ⟨splice cc (0 + (x : Int).toNat * 1) [(i64 (IntKind.wrap .i64 (z + (1 : Int))))], 3, 1, 0, true⟩ := g3
  have hraw := rA45_raw C n bb o m c i x z cc M  M1
  have hkp : ∀ id k, M.get id = some k → id ≠ C → M1.get id = some k := fun id k g h_C => by
    have g0 := Mem.lt_of_get g
    have g := ((fun id h _ => kp4 id h) id h_C (Mem.lt_of_get g)).trans g
    exact g
  obtain ⟨T1, h1, h2⟩ := Rd.told noNumP mixedP (specs_none Try.prog) (fun _ _ => rfl) hraw (hk (bT cc0) (hk (q_inb (by omega) (by simp at cc0; omega)) (hk (q_ld (aload_ext X0 hld0)) (hk (q_inb hi1.1 hi1.2) (hk (q_ld (aload_cell (a := ⟨C, 0 + (x : Int).toNat * 1, none⟩) dC3 gC hc2)) (hk (q_inb hi1.1 hi1.2) (hk (q_st q2) hn)))))))
  exact ⟨T1, M1, h1, h2, X5, hM6, g3, hkp⟩
theorem rA45x_raw (C n : Nat) (a : Option Addr) (m c i : Nat) (M : Mem)  : oR Try.prog [] 51 Try.f36 (q36.loopAt 0) [(0, (i64 (((n : Nat) : Int)))), (1, (.slice a m c)), (5, (sli C 0 n (n + 1))), (15, (.slice a m c)), (16, (i64 (((m : Nat) : Int)))), (17, (i64 (((i : Nat) : Int))))] M [ttF 2] [0, 1, 5] = some ((.exit 0), [some (i64 (((n : Nat) : Int))), some (.slice a m c), some (sli C 0 n (n + 1))], M, [qF (decide ((((i : Nat) : Int)) < (((m : Nat) : Int))))]) := by kernel_rfl
theorem rA45x (C n : Nat) (a : Option Addr) (m c i : Nat) {M : Mem} (cc0 : (decide ((((i : Nat) : Int)) < (((m : Nat) : Int)))) = false) : ∃ T1, Rd Try.prog [] (q36.loopAt 0) Try.f36.ntmps (fr [(0, (i64 (((n : Nat) : Int)))), (1, (.slice a m c)), (5, (sli C 0 n (n + 1))), (15, (.slice a m c)), (16, (i64 (((m : Nat) : Int)))), (17, (i64 (((i : Nat) : Int))))]) M (.exit 0) T1 M ∧ [0, 1, 5].map T1.get = [some (i64 (((n : Nat) : Int))), some (.slice a m c), some (sli C 0 n (n + 1))] := by
  have hraw := rA45x_raw C n a m c i M  
  obtain ⟨T1, h1, h2⟩ := Rd.told noNumP mixedP (specs_none Try.prog) (fun _ _ => rfl) hraw (hk (bF cc0) hn)
  exact ⟨T1, h1, h2⟩
theorem rB45_raw (C D E n k q z i : Nat) (cc cd ce : List Value) (M : Mem) (M1 : Mem) : oR Try.prog [] 51 Try.f36 (q36.loopAt 2) [(8, (sli D 0 k (k + 1))), (9, (sli E 0 n (n + 1))), (10, (i64 (((q : Nat) : Int)))), (33, (sli C 0 n (n + 1))), (34, (i64 (((n : Nat) : Int)))), (35, (i64 (((i : Nat) : Int))))] M [ttT 2, ttT 6, ttL 8 (i64 (((z : Nat) : Int))), ttL 30 (sli D (0 + q) 0 (((q + z)) - q + 1)), ttT 32, ttS 34 M1] [8, 9, 10, 33, 34, 35] = some (.normal, [some (sli D 0 k (k + 1)), some (sli E 0 n (n + 1)), some (i64 (IntKind.wrap .i64 ((((q : Nat) : Int)) + (((z : Nat) : Int))))), some (sli C 0 n (n + 1)), some (i64 (((n : Nat) : Int))), some (i64 (IntKind.wrap .i64 ((((i : Nat) : Int)) + (1 : Int))))], M1, [qT (decide ((((i : Nat) : Int)) < (((n : Nat) : Int)))), .q (.inb (((i : Nat) : Int)) n) (ansB true), qL 3 C (0 + (((i : Nat) : Int) : Int).toNat * 1) M (i64 (((z : Nat) : Int))), .q (.slice 22 (sli D 0 k (k + 1)) (some (i64 (((q : Nat) : Int)))) (some (i64 (((q : Nat) : Int)))) (some (i64 (IntKind.wrap .i64 ((((q : Nat) : Int)) + (((z : Nat) : Int)))))) M) (1, .val (sli D (0 + q) 0 (((q + z)) - q + 1)), noMem), .q (.inb (((i : Nat) : Int)) n) (ansB true), qS 22 E (0 + (((i : Nat) : Int) : Int).toNat * 1) (sli D (0 + q) 0 (((q + z)) - q + 1)) M M1]) := by kernel_rfl
theorem rB45 (C D E n k q z i : Nat) (cc cd ce : List Value) {M M0 : Mem} (hM : MemOk M) (X0 : Ext M0 M) (hE : M0.next ≤ E) (gC : M.get C = some ⟨cc, 3, 1, 0, true⟩) (gD : M.get D = some ⟨cd, 3, 1, 0, true⟩) (gE : M.get E = some ⟨ce, 22, 1, 0, true⟩) (dCE : C ≠ E) (dDE : D ≠ E) (cc0 : (decide ((((i : Nat) : Int)) < (((n : Nat) : Int)))) = true) (hc0 : (cc)[0 + (((i : Nat) : Int) : Int).toNat * 1]? = some (i64 (((z : Nat) : Int)))) (hs1 : q ≤ ((q + z)) ∧ ((q + z)) ≤ k) (he2 : (IntKind.wrap .i64 ((((q : Nat) : Int)) + (((z : Nat) : Int)))) = ((((q + z)) : Nat) : Int)) (hof3 : 0 + (((i : Nat) : Int) : Int).toNat * 1 + 1 ≤ (ce).length) : ∃ T1 M', Rd Try.prog [] (q36.loopAt 2) Try.f36.ntmps (fr [(8, (sli D 0 k (k + 1))), (9, (sli E 0 n (n + 1))), (10, (i64 (((q : Nat) : Int)))), (33, (sli C 0 n (n + 1))), (34, (i64 (((n : Nat) : Int)))), (35, (i64 (((i : Nat) : Int))))]) M .normal T1 M' ∧ [8, 9, 10, 33, 34, 35].map T1.get = [some (sli D 0 k (k + 1)), some (sli E 0 n (n + 1)), some (i64 (IntKind.wrap .i64 ((((q : Nat) : Int)) + (((z : Nat) : Int))))), some (sli C 0 n (n + 1)), some (i64 (((n : Nat) : Int))), some (i64 (IntKind.wrap .i64 ((((i : Nat) : Int)) + (1 : Int))))] ∧ Ext M0 M' ∧ MemOk M' ∧ M'.get C = some ⟨cc, 3, 1, 0, true⟩ ∧ M'.get D = some ⟨cd, 3, 1, 0, true⟩ ∧ M'.get E = some ⟨(splice ce (0 + (((i : Nat) : Int) : Int).toNat * 1) [(sli D (0 + q) 0 (((q + z)) - q + 1))]), 22, 1, 0, true⟩ ∧ ∀ id k, M.get id = some k → id ≠ C → id ≠ D → id ≠ E → M'.get id = some k := by
  obtain ⟨M1, q2, g3, kp4, X5, hM6, nx7⟩ := store_t (o := 0 + (((i : Nat) : Int) : Int).toNat * 1) (v := (sli D (0 + q) 0 (((q + z)) - q + 1))) (new := splice ce (0 + (((i : Nat) : Int) : Int).toNat * 1) [(sli D (0 + q) 0 (((q + z)) - q + 1))]) X0 hE hM dS22 gE rfl rfl (Nat.zero_le _) hof3 rfl
  replace g3 : M1.get E = some ⟨splice ce (0 + (((i : Nat) : Int) : Int).toNat * 1) [(sli D (0 + q) 0 (((q + z)) - q + 1))], 22, 1, 0, true⟩ := g3
  have g8 := (kp4 _ dCE).trans gC
  have g9 := (kp4 _ dDE).trans gD
  have hraw := rB45_raw C D E n k q z i cc cd ce M  M1
  have hkp : ∀ id k, M.get id = some k → id ≠ C → id ≠ D → id ≠ E → M1.get id = some k := fun id k g h_C h_D h_E => by
    have g0 := Mem.lt_of_get g
    have g := ((fun id h _ => kp4 id h) id h_E (Mem.lt_of_get g)).trans g
    exact g
  obtain ⟨T1, h1, h2⟩ := Rd.told noNumP mixedP (specs_none Try.prog) (fun _ _ => rfl) hraw (hk (bT cc0) (hk (q_inb (by omega) (by simp at cc0; omega)) (hk (q_ld (aload_cell (a := ⟨C, 0 + (((i : Nat) : Int) : Int).toNat * 1, none⟩) dC3 gC hc0)) (hk (⟨_, rfl, (by rw [he2]; exact slice3_t (by kernel_rfl) (elem := 3) (by kernel_rfl) gD rfl hs1.1 hs1.2)⟩) (hk (q_inb (by omega) (by simp at cc0; omega)) (hk (q_st q2) hn))))))
  exact ⟨T1, M1, h1, h2, X5, hM6, g8, g9, g3, hkp⟩
theorem rB45x_raw (C D E n k q i : Nat) (M : Mem)  : oR Try.prog [] 51 Try.f36 (q36.loopAt 2) [(8, (sli D 0 k (k + 1))), (9, (sli E 0 n (n + 1))), (10, (i64 (((q : Nat) : Int)))), (33, (sli C 0 n (n + 1))), (34, (i64 (((n : Nat) : Int)))), (35, (i64 (((i : Nat) : Int))))] M [ttF 2] [9] = some ((.exit 2), [some (sli E 0 n (n + 1))], M, [qF (decide ((((i : Nat) : Int)) < (((n : Nat) : Int))))]) := by kernel_rfl
theorem rB45x (C D E n k q i : Nat) {M : Mem} (cc0 : (decide ((((i : Nat) : Int)) < (((n : Nat) : Int)))) = false) : ∃ T1, Rd Try.prog [] (q36.loopAt 2) Try.f36.ntmps (fr [(8, (sli D 0 k (k + 1))), (9, (sli E 0 n (n + 1))), (10, (i64 (((q : Nat) : Int)))), (33, (sli C 0 n (n + 1))), (34, (i64 (((n : Nat) : Int)))), (35, (i64 (((i : Nat) : Int))))]) M (.exit 2) T1 M ∧ [9].map T1.get = [some (sli E 0 n (n + 1))] := by
  have hraw := rB45x_raw C D E n k q i M  
  obtain ⟨T1, h1, h2⟩ := Rd.told noNumP mixedP (specs_none Try.prog) (fun _ _ => rfl) hraw (hk (bF cc0) hn)
  exact ⟨T1, h1, h2⟩
theorem loopA45 {a : Option Addr} {c C n : Nat} {ends : List Int} {M0 M : Mem} (hM : MemOk M) (X : Ext M0 M) (hs : pInts ends (.slice a ends.length c) M0) (hb : ∀ x ∈ ends, 0 ≤ x ∧ x < (n : Int)) (hl : ends.length ≤ 400) (hC : M0.next ≤ C) (gC : M.get C = some ⟨List.replicate n (i64 0), 3, 1, 0, true⟩) :
    ∃ M', LoopR Try.prog [] (q36.loopAt 0) Try.f36.ntmps (fr [(0, i64 ((n : Nat) : Int)), (1, .slice a ends.length c), (5, sli C 0 n (n + 1)), (15, .slice a ends.length c), (16, i64 ((ends.length : Nat) : Int)), (17, i64 ((0 : Nat) : Int))]) M (.exit 0) (fr [(0, i64 ((n : Nat) : Int)), (1, .slice a ends.length c), (5, sli C 0 n (n + 1))]) M' ∧ Ext M0 M' ∧ MemOk M' ∧ M'.get C = some ⟨cntCells (keyE ends) ends.length n, 3, 1, 0, true⟩ := by
  obtain ⟨_, M', h1, h2, h3, h4⟩ := LoopR.for (P := Try.prog) (GL := []) (b := q36.loopAt 0) (nt := Try.f36.ntmps) (id := 0) (σ := Unit) (n := ends.length) (Inv := fun i _ M1 => Ext M0 M1 ∧ MemOk M1 ∧ M1.get C = some ⟨cntCells (keyE ends) i n, 3, 1, 0, true⟩)
    (F := fun i _ => [(0, i64 ((n : Nat) : Int)), (1, .slice a ends.length c), (5, sli C 0 n (n + 1)), (15, .slice a ends.length c), (16, i64 ((ends.length : Nat) : Int)), (17, i64 ((i : Nat) : Int))])
    (O := fun _ => [(0, i64 ((n : Nat) : Int)), (1, .slice a ends.length c), (5, sli C 0 n (n + 1))])
    (by
      rintro i _ M1 hi ⟨X1, hM1, hg1⟩
      obtain ⟨bb, o, rfl, _⟩ := form_pos hs (by omega)
      have ht : ends[i]? = some ends[i] := List.getElem?_eq_getElem hi
      have hk := keyE_lt hb hi
      have hbi := hb _ (List.getElem_mem hi)
      have e0 : 0 + (ends[i] : Int).toNat * 1 = keyE ends i := by rw [keyE_at hi]; omega
      obtain ⟨T1, M2, h1, h2, h3, h4, h5, _⟩ := rA45 C n bb o ends.length c i ends[i] ((cnt (keyE ends) i (keyE ends i) : Nat) : Int) _ hM1 X1 hC hg1 (decide_eq_true (by omega)) (ld_one (P := Try.prog) (ty := 3) hs ht rfl dC3) hbi (by rw [e0]; exact cntCells_get _ _ hk) (by rw [e0, cntCells_len]; omega)
      rw [wrap_succ (by omega)] at h2
      have hc := cnt_le (keyE ends) i (keyE ends i)
      rw [e0, wrap_succ (by omega), cntCells_step _ hk] at h5
      exact ⟨(), T1, M2, h1, h2, h3, h4, h5⟩)
    (by
      rintro _ M1 ⟨X1, hM1, hg1⟩
      exact rA45x C n a ends.length c ends.length (M := M1) (decide_eq_false (by omega)))
    ends.length 0 (by omega) (s := ()) (M := M) ⟨X, hM, by rw [cntCells_zero]; exact gC⟩
  exact ⟨M', h1, h2, h3, h4⟩
theorem loopB45 {C D E n : Nat} {ends : List Int} {M0 M : Mem} (hM : MemOk M) (X : Ext M0 M) (hb : ∀ x ∈ ends, 0 ≤ x ∧ x < (n : Int)) (hl : ends.length ≤ 400) (hn : n ≤ 60) (hE : M0.next ≤ E) (gC : M.get C = some ⟨cntCells (keyE ends) ends.length n, 3, 1, 0, true⟩) (gD : M.get D = some ⟨List.replicate ends.length (i64 0), 3, 1, 0, true⟩) (gE : M.get E = some ⟨List.replicate n sln, 22, 1, 0, true⟩) (dCE : C ≠ E) (dDE : D ≠ E) :
    ∃ M', LoopR Try.prog [] (q36.loopAt 2) Try.f36.ntmps (fr [(8, sli D 0 ends.length (ends.length + 1)), (9, sli E 0 n (n + 1)), (10, i64 ((0 : Nat) : Int)), (33, sli C 0 n (n + 1)), (34, i64 ((n : Nat) : Int)), (35, i64 ((0 : Nat) : Int))]) M (.exit 2) (fr [(9, sli E 0 n (n + 1))]) M' ∧ Ext M0 M' ∧ MemOk M' ∧ M'.get D = some ⟨List.replicate ends.length (i64 0), 3, 1, 0, true⟩ ∧ M'.get E = some ⟨rowCells D (cnt (keyE ends) ends.length) (fun _ => 0) n, 22, 1, 0, true⟩ := by
  have hall := offS_cnt (keyE ends) n ends.length fun j hj => keyE_lt hb hj
  have hxl := rowCells_len D (cnt (keyE ends) ends.length) (fun _ => 0) n
  obtain ⟨_, M', h1, h2, h3, h4, h5, h6⟩ := LoopR.for (P := Try.prog) (GL := []) (b := q36.loopAt 2) (nt := Try.f36.ntmps) (id := 2) (σ := Unit) (n := n) (Inv := fun i _ M1 => Ext M0 M1 ∧ MemOk M1 ∧ M1.get C = some ⟨cntCells (keyE ends) ends.length n, 3, 1, 0, true⟩ ∧ M1.get D = some ⟨List.replicate ends.length (i64 0), 3, 1, 0, true⟩ ∧ M1.get E = some ⟨fillS (rowCells D (cnt (keyE ends) ends.length) (fun _ => 0) n) i sln, 22, 1, 0, true⟩)
    (F := fun i _ => [(8, sli D 0 ends.length (ends.length + 1)), (9, sli E 0 n (n + 1)), (10, i64 ((offS (cnt (keyE ends) ends.length) i : Nat) : Int)), (33, sli C 0 n (n + 1)), (34, i64 ((n : Nat) : Int)), (35, i64 ((i : Nat) : Int))])
    (O := fun _ => [(9, sli E 0 n (n + 1))])
    (by
      rintro i _ M1 hi ⟨X1, hM1, hg1, hg2, hg3⟩
      have hnx := offS_next (cnt (keyE ends) ends.length) hi
      have e0 : 0 + (((i : Nat) : Int) : Int).toNat * 1 = i := by simp
      have ew := wrap_add (i := offS (cnt (keyE ends) ends.length) i) (j := cnt (keyE ends) ends.length i) (by omega)
      obtain ⟨T1, M2, h1, h2, h3, h4, h5, h6, h7, _⟩ := rB45 C D E n ends.length (offS (cnt (keyE ends) ends.length) i) (cnt (keyE ends) ends.length i) i _ _ _ hM1 X1 hE hg1 hg2 hg3 dCE dDE (decide_eq_true (by omega)) (by rw [e0]; exact cntCells_get _ _ hi) ⟨by omega, by omega⟩ ew (by rw [e0, fillS_len _ _ (by omega)]; omega)
      rw [wrap_succ (by omega), ew] at h2
      have hst := fillS_step (z := sln) (rowCells_get D (cnt (keyE ends) ends.length) (fun _ => 0) hi)
      simp only [cellR] at hst
      rw [e0, Nat.zero_add, Nat.add_sub_cancel_left, hst] at h7
      exact ⟨(), T1, M2, h1, h2, h3, h4, h5, h6, h7⟩)
    (by
      rintro _ M1 ⟨X1, hM1, _⟩
      exact rB45x C D E n ends.length _ n (M := M1) (decide_eq_false (by omega)))
    n 0 (by omega) (s := ()) (M := M) ⟨X, hM, gC, gD, by rw [fillS_zero, hxl]; exact gE⟩
  refine ⟨M', h1, h2, h3, h5, ?_⟩
  have := fillS_all (rowCells D (cnt (keyE ends) ends.length) (fun _ => 0) n) sln
  rw [hxl] at this
  rw [this] at h6
  exact h6
theorem rK36 : Try.f36.results = #[.tmp 4] := by kernel_rfl
theorem w45_raw (n : Nat) (aends : Option Addr) (cends : Nat) (ends : List Int) (M : Mem) (b1 : Nat) (M2 : Mem) (M9 : Mem) (b15 : Nat) (M16 : Mem) (b24 : Nat) (M25 : Mem) (M34 : Mem) : oT Try.prog [0, 2] 60 Try.f36 q36 [(i64 ((n : Nat) : Int)), (.slice aends ends.length cends)] M [ttV 5 (sli b1 0 n (n + 1)) M2, ttT 11, .blk 14 [0, 1, 5, 15, 16, 17] .normal (fr [(0, (i64 (((n : Nat) : Int)))), (1, (.slice aends ends.length cends)), (5, (sli b1 0 n (n + 1)))]) M9, ttT 18, ttV 20 (sli b15 0 ends.length (ends.length + 1)) M16, ttV 26 (sli b24 0 n (n + 1)) M25, .blk 37 [8, 9, 10, 33, 34, 35] .normal (fr [(9, (sli b24 0 n (n + 1)))]) M34] 4 = some (.ret, some (sli b24 0 n (n + 1)), M34, [.eq (amakeSlice Try.prog 22 (i64 (((n : Nat) : Int))) (i64 (((n : Nat) : Int))) M) (1, .val (sli b1 0 n (n + 1)), M2), .ln aends ends.length cends, .blk 0 (.loop (q36.loopAt 0)) Try.f36.ntmps [0, 1, 5, 15, 16, 17] [some (i64 (((n : Nat) : Int))), some (.slice aends ends.length cends), some (sli b1 0 n (n + 1)), some (.slice aends ends.length cends), some (i64 (((ends.length : Nat) : Int))), some (i64 0)] M2 .normal (fr [(0, (i64 (((n : Nat) : Int)))), (1, (.slice aends ends.length cends)), (5, (sli b1 0 n (n + 1)))]) M9, .ln aends ends.length cends, .eq (amakeSlice Try.prog 22 (i64 (((ends.length : Nat) : Int))) (i64 (((ends.length : Nat) : Int))) M9) (1, .val (sli b15 0 ends.length (ends.length + 1)), M16), .eq (amakeSlice Try.prog 46 (i64 (((n : Nat) : Int))) (i64 (((n : Nat) : Int))) M16) (1, .val (sli b24 0 n (n + 1)), M25), .blk 2 (.loop (q36.loopAt 2)) Try.f36.ntmps [8, 9, 10, 33, 34, 35] [some (sli b15 0 ends.length (ends.length + 1)), some (sli b24 0 n (n + 1)), some (i64 0), some (sli b1 0 n (n + 1)), some (i64 (((n : Nat) : Int))), some (i64 0)] M25 .normal (fr [(9, (sli b24 0 n (n + 1)))]) M34]) := by kernel_rfl
theorem w45 (n : Nat) (aends : Option Addr) (cends : Nat) (ends : List Int) {M : Mem} (hM : MemOk M) (hends : pInts ends (.slice aends ends.length cends) M) (hcond : ends.length ≤ 400 ∧ n ≤ 60 ∧ ∀ x ∈ ends, 0 ≤ x ∧ x < (n : Int)) : ∃ v M', Ev Try.prog [] 36 [(i64 ((n : Nat) : Int)), (.slice aends ends.length cends)] M v M' ∧ Ext M M' ∧ MemOk M' ∧ pRoom (n, ends) M.next v M' := by
  obtain ⟨b1, M2, eb3, em4, g5, E6, hM7⟩ := mks_t (P := Try.prog) (t := 22) (elem := 3) (z := (i64 0)) (n := n) hM (by kernel_rfl) (by kernel_rfl) (by have := hcond.1; have := hcond.2.1; omega)
  have nb1 : M.next ≤ b1 := by rw [← eb3]; exact (Ext.refl M).next
  have X8 := (Ext.refl M).trans E6
  obtain ⟨M9, hL10, X11, hM12, g13⟩ := loopA45 hM7 X8 hends hcond.2.2 hcond.1 nb1 g5
  obtain ⟨b15, M16, eb17, em18, g19, E20, hM21⟩ := mks_t (P := Try.prog) (t := 22) (elem := 3) (z := (i64 0)) (n := ends.length) hM12 (by kernel_rfl) (by kernel_rfl) (by have := hcond.1; have := hcond.2.1; omega)
  have nb15 : M.next ≤ b15 := by rw [← eb17]; exact X11.next
  have db1b15 : b1 ≠ b15 := by have := Mem.lt_of_get g13; omega
  have g22 := E20.old g13
  have X23 := X11.trans E20
  obtain ⟨b24, M25, eb26, em27, g28, E29, hM30⟩ := mks_t (P := Try.prog) (t := 46) (elem := 22) (z := sln) (n := n) hM21 (by kernel_rfl) (by kernel_rfl) (by have := hcond.1; have := hcond.2.1; omega)
  have nb24 : M.next ≤ b24 := by rw [← eb26]; exact X23.next
  have db1b24 : b1 ≠ b24 := by have := Mem.lt_of_get g22; omega
  have db15b24 : b15 ≠ b24 := by have := Mem.lt_of_get g19; omega
  have g31 := E29.old g22
  have g32 := E29.old g19
  have X33 := X23.trans E29
  obtain ⟨M34, hL35, X36, hM37, g38, g39⟩ := loopB45 hM30 X33 hcond.2.2 hcond.1 hcond.2.1 nb24 g31 g32 g28 db1b24 db15b24
  have hraw := w45_raw n aends cends ends M  b1 M2 M9 b15 M16 b24 M25 M34
  exact ⟨(sli b24 0 n (n + 1)), M34, Ev.told_tmp noNumP mixedP Try.func36 q36_ok (by kernel_rfl) rK36 (fun B => specsB_ok (l := []) (fun p hp => by cases hp) (k := [(0, bone (.loop (q36.loopAt 0)) Try.f36.ntmps [0, 1, 5, 15, 16, 17] [some (i64 (((n : Nat) : Int))), some (.slice aends ends.length cends), some (sli b1 0 n (n + 1)), some (.slice aends ends.length cends), some (i64 (((ends.length : Nat) : Int))), some (i64 0)] M2 .normal (fr [(0, (i64 (((n : Nat) : Int)))), (1, (.slice aends ends.length cends)), (5, (sli b1 0 n (n + 1)))]) M9), (2, bone (.loop (q36.loopAt 2)) Try.f36.ntmps [8, 9, 10, 33, 34, 35] [some (sli b15 0 ends.length (ends.length + 1)), some (sli b24 0 n (n + 1)), some (i64 0), some (sli b1 0 n (n + 1)), some (i64 (((n : Nat) : Int))), some (i64 0)] M25 .normal (fr [(9, (sli b24 0 n (n + 1)))]) M34)]) (fun p hp => by simp only [List.mem_cons, List.not_mem_nil, or_false] at hp; rcases hp with rfl | rfl <;> first | exact BlkOk.loop noNumP mixedP hL10 | exact BlkOk.loop noNumP mixedP hL35)) (fun _ h => blksF_two h) hraw (hk (q_eq em4 Nat.one_ne_zero) (hk (lN hends.ln) (hk (q_blk rfl) (hk (lN hends.ln) (hk (q_eq em18 Nat.one_ne_zero) (hk (q_eq em27 Nat.one_ne_zero) (hk (q_blk rfl) hn))))))), X36, hM37, ⟨b24, b15, rfl, nb24, nb15, db15b24, g39, g38⟩⟩
abbrev Q36 := FC (asP (as2 pN pInts) fun x : Nat × List Int => x.2.length ≤ 400 ∧ x.1 ≤ 60 ∧ ∀ z ∈ x.2, 0 ≤ z ∧ z < (x.1 : Int)) pRoom id
theorem con36 {x : Nat × List Int} {lv : List Value} {M : Mem} (hM : MemOk M) (h : (asP (as2 pN pInts) fun x : Nat × List Int => x.2.length ≤ 400 ∧ x.1 ≤ 60 ∧ ∀ z ∈ x.2, 0 ≤ z ∧ z < (x.1 : Int)) x lv M) : ∃ v M', Con Try.prog [] 36 Q36 lv M v M' := by
  refine FC.con h ?_
  obtain ⟨⟨g0, g1, rfl, rfl, k1⟩, hcond⟩ := h
  obtain ⟨n, ends⟩ := x
  obtain ⟨a, c, rfl⟩ := GRowsAt.form k1
  obtain ⟨v, M', h1, h2, _, h3⟩ := w45 n a c ends hM k1 hcond
  exact ⟨v, M', h1, h2, h3⟩
end Go.Proofs.Ytipnhelkganmdaa

set_option linter.unusedVariables false
set_option linter.unusedSimpArgs false
open Go Go.Am Go.Proofs
namespace Go.Proofs.Ytipnhelkganmdaa
set_option maxRecDepth 100000
set_option linter.unusedVariables false
set_option linter.unusedSimpArgs false
theorem r36_raw (D E n bb o m c i p q w : Nat) (x : Int) (cd ce : List Value) (M : Mem) (b1 : Nat) (M2 : Mem) (M12 : Mem) (M21 : Mem) : oR Try.prog [] 51 Try.f28 (q28.loopAt 0) [(5, (sli E 0 n (n + 1))), (11, (sli bb o m c)), (12, (i64 (((m : Nat) : Int)))), (13, (i64 (((i : Nat) : Int))))] M [ttT 2, ttT 6, ttL 8 (i64 x), ttT 22, ttL 24 (sli D p q w), ttV 28 (sli b1 0 1 2) M2, .at 30 (2, .val (sli D p (q + 1) w), M12), ttT 32, ttS 34 M21] [5, 11, 12, 13] = some (.normal, [some (sli E 0 n (n + 1)), some (sli bb o m c), some (i64 (((m : Nat) : Int))), some (i64 (IntKind.wrap .i64 ((((i : Nat) : Int)) + (1 : Int))))], M21, [qT (decide ((((i : Nat) : Int)) < (((m : Nat) : Int)))), .q (.inb (((i : Nat) : Int)) m) (ansB true), qL 3 bb (o + (((i : Nat) : Int) : Int).toNat * 1) M (i64 x), .q (.inb x n) (ansB true), qL 22 E (0 + (x : Int).toNat * 1) M (sli D p q w), .eq (abuildSlice Try.prog 22 1 [(0, (i64 (((i : Nat) : Int))))] M) (1, .val (sli b1 0 1 2), M2), .q (.append [22, 22] (sli D p q w) (sli b1 0 1 2) M2) (2, .val (sli D p (q + 1) w), M12), .q (.inb x n) (ansB true), qS 22 E (0 + (x : Int).toNat * 1) (sli D p (q + 1) w) M12 M21]) := by kernel_rfl
theorem r36 (D E n bb o m c i p q w : Nat) (x : Int) (cd ce : List Value) {M M0 : Mem} (hM : MemOk M) (X0 : Ext M0 M) (hD : M0.next ≤ D) (hE : M0.next ≤ E) (gD : M.get D = some ⟨cd, 3, 1, 0, true⟩) (gE : M.get E = some ⟨ce, 22, 1, 0, true⟩) (dDE : D ≠ E) (cc0 : (decide ((((i : Nat) : Int)) < (((m : Nat) : Int)))) = true) (hld0 : aload Try.prog 3 ⟨bb, o + (((i : Nat) : Int) : Int).toNat * 1, none⟩ M0 = some (i64 x)) (hi1 : 0 ≤ (x : Int) ∧ (x : Int) < n) (hc2 : (ce)[0 + (x : Int).toNat * 1]? = some (sli D p q w)) (hr3 : q + 1 < w ∧ p + (q + 1) * 1 ≤ (cd).length ∧ q < 1073741824) (hof4 : 0 + (x : Int).toNat * 1 + 1 ≤ (ce).length) : ∃ T1 M', Rd Try.prog [] (q28.loopAt 0) Try.f28.ntmps (fr [(5, (sli E 0 n (n + 1))), (11, (sli bb o m c)), (12, (i64 (((m : Nat) : Int)))), (13, (i64 (((i : Nat) : Int))))]) M .normal T1 M' ∧ [5, 11, 12, 13].map T1.get = [some (sli E 0 n (n + 1)), some (sli bb o m c), some (i64 (((m : Nat) : Int))), some (i64 (IntKind.wrap .i64 ((((i : Nat) : Int)) + (1 : Int))))] ∧ Ext M0 M' ∧ MemOk M' ∧ M'.get D = some ⟨(splice cd (p + q * 1) [(i64 (((i : Nat) : Int)))]), 3, 1, 0, true⟩ ∧ M'.get E = some ⟨(splice ce (0 + (x : Int).toNat * 1) [(sli D p (q + 1) w)]), 22, 1, 0, true⟩ ∧ ∀ id k, M.get id = some k → id ≠ D → id ≠ E → M'.get id = some k := by
  obtain ⟨b1, M2, eb3, em4, g5, E6, hM7⟩ := new_t hM ⟨[(i64 (((i : Nat) : Int)))], 3, 1, 0, true⟩
  have nb1 : M0.next ≤ b1 := by rw [← eb3]; exact X0.next
  have dDb1 : D ≠ b1 := by have := Mem.lt_of_get gD; omega
  have dEb1 : E ≠ b1 := by have := Mem.lt_of_get gE; omega
  have g8 := E6.old gD
  have g9 := E6.old gE
  have nx10 := E6.next
  have X11 := X0.trans E6
  obtain ⟨M12, q13, g14, kp15, X16, hM17, nx18⟩ := append_in_t (P := Try.prog) (sT := 22) (xT := 22) (elem := 3) (w := 1) (y := 8) (cx := 2) X11 hD hM7 (by kernel_rfl) (by kernel_rfl) (by kernel_rfl) (by decide) (by decide) hr3.2.2 g5 (ox := 0) (new := [(i64 (((i : Nat) : Int)))]) rfl rfl rfl g8 (takeN_some (n := q * 1) (k := p) (l := cd) (by have := hr3.2.1; omega)) rfl rfl (Nat.zero_le _) hr3.1 hr3.2.1
  replace g14 : M12.get D = some ⟨splice cd (p + q * 1) [(i64 (((i : Nat) : Int)))], 3, 1, 0, true⟩ := g14
  have g19 := (kp15 _ (Ne.symm dDE)).trans g9
  have g20 := (kp15 _ (Ne.symm dDb1)).trans g5
  obtain ⟨M21, q22, g23, kp24, X25, hM26, nx27⟩ := store_t (o := 0 + (x : Int).toNat * 1) (v := (sli D p (q + 1) w)) (new := splice ce (0 + (x : Int).toNat * 1) [(sli D p (q + 1) w)]) X16 hE hM17 dS22 g19 rfl rfl (Nat.zero_le _) hof4 rfl
  replace g23 : M21.get E = some ⟨splice ce (0 + (x : Int).toNat * 1) [(sli D p (q + 1) w)], 22, 1, 0, true⟩ := g23
  have g28 := (kp24 _ dDE).trans g14
  have g29 := (kp24 _ (Ne.symm dEb1)).trans g20
  have hraw := r36_raw D E n bb o m c i p q w x cd ce M  b1 M2 M12 M21
  have hkp : ∀ id k, M.get id = some k → id ≠ D → id ≠ E → M21.get id = some k := fun id k g h_D h_E => by
    have g0 := Mem.lt_of_get g
    have g := E6.old g
    have g := ((fun id h _ => kp15 id h) id h_D (Mem.lt_of_get g)).trans g
    have g := ((fun id h _ => kp24 id h) id h_E (Mem.lt_of_get g)).trans g
    exact g
  obtain ⟨T1, h1, h2⟩ := Rd.told noNumP mixedP (specs_none Try.prog) (fun _ _ => rfl) hraw (hk (bT cc0) (hk (q_inb (by omega) (by simp at cc0; omega)) (hk (q_ld (aload_ext X0 hld0)) (hk (q_inb hi1.1 hi1.2) (hk (q_ld (aload_cell (a := ⟨E, 0 + (x : Int).toNat * 1, none⟩) dC22 gE hc2)) (hk (q_eq (by rw [← eb3, ← em4]; kernel_rfl) Nat.one_ne_zero) (hk (q_app q13 (Nat.succ_ne_zero _)) (hk (q_inb hi1.1 hi1.2) (hk (q_st q22) hn)))))))))
  exact ⟨T1, M21, h1, h2, X25, hM26, g28, g23, hkp⟩
theorem r36x_raw (E n : Nat) (a : Option Addr) (m c i : Nat) (M : Mem)  : oR Try.prog [] 51 Try.f28 (q28.loopAt 0) [(5, (sli E 0 n (n + 1))), (11, (.slice a m c)), (12, (i64 (((m : Nat) : Int)))), (13, (i64 (((i : Nat) : Int))))] M [ttF 2] [5] = some ((.exit 0), [some (sli E 0 n (n + 1))], M, [qF (decide ((((i : Nat) : Int)) < (((m : Nat) : Int))))]) := by kernel_rfl
theorem r36x (E n : Nat) (a : Option Addr) (m c i : Nat) {M : Mem} (cc0 : (decide ((((i : Nat) : Int)) < (((m : Nat) : Int)))) = false) : ∃ T1, Rd Try.prog [] (q28.loopAt 0) Try.f28.ntmps (fr [(5, (sli E 0 n (n + 1))), (11, (.slice a m c)), (12, (i64 (((m : Nat) : Int)))), (13, (i64 (((i : Nat) : Int))))]) M (.exit 0) T1 M ∧ [5].map T1.get = [some (sli E 0 n (n + 1))] := by
  have hraw := r36x_raw E n a m c i M  
  obtain ⟨T1, h1, h2⟩ := Rd.told noNumP mixedP (specs_none Try.prog) (fun _ _ => rfl) hraw (hk (bF cc0) hn)
  exact ⟨T1, h1, h2⟩
theorem loop36 {a : Option Addr} {c D E n : Nat} {ends : List Int} {M0 M : Mem} (hM : MemOk M) (X : Ext M0 M) (hs : pInts ends (.slice a ends.length c) M0) (hb : ∀ x ∈ ends, 0 ≤ x ∧ x < (n : Int)) (hl : ends.length ≤ 400) (hD : M0.next ≤ D) (hE : M0.next ≤ E) (dDE : D ≠ E) (gE : M.get E = some ⟨rowCells D (cnt (keyE ends) ends.length) (fun _ => 0) n, 22, 1, 0, true⟩) (gD : M.get D = some ⟨List.replicate ends.length (i64 0), 3, 1, 0, true⟩) :
    ∃ M', LoopR Try.prog [] (q28.loopAt 0) Try.f28.ntmps (fr [(5, sli E 0 n (n + 1)), (11, .slice a ends.length c), (12, i64 ((ends.length : Nat) : Int)), (13, i64 ((0 : Nat) : Int))]) M (.exit 0) (fr [(5, sli E 0 n (n + 1))]) M' ∧ Ext M0 M' ∧ MemOk M' ∧ M'.get E = some ⟨rowCells D (cnt (keyE ends) ends.length) (cnt (keyE ends) ends.length) n, 22, 1, 0, true⟩ ∧ ∃ mem, M'.get D = some ⟨mem, 3, 1, 0, true⟩ ∧ Bk (cnt (keyE ends) ends.length) n (keyE ends) (fun j => i64 ((j : Nat) : Int)) ends.length mem := by
  have hall := offS_cnt (keyE ends) n ends.length fun j hj => keyE_lt hb hj
  obtain ⟨_, M', h1, h2, h3, h4, h5⟩ := LoopR.for (P := Try.prog) (GL := []) (b := q28.loopAt 0) (nt := Try.f28.ntmps) (id := 0) (σ := Unit) (n := ends.length) (Inv := fun i _ M1 => Ext M0 M1 ∧ MemOk M1 ∧ M1.get E = some ⟨rowCells D (cnt (keyE ends) ends.length) (cnt (keyE ends) i) n, 22, 1, 0, true⟩ ∧ ∃ mem, M1.get D = some ⟨mem, 3, 1, 0, true⟩ ∧ Bk (cnt (keyE ends) ends.length) n (keyE ends) (fun j => i64 ((j : Nat) : Int)) i mem)
    (F := fun i _ => [(5, sli E 0 n (n + 1)), (11, .slice a ends.length c), (12, i64 ((ends.length : Nat) : Int)), (13, i64 ((i : Nat) : Int))])
    (O := fun _ => [(5, sli E 0 n (n + 1))])
    (by
      rintro i _ M1 hi ⟨X1, hM1, hg1, mem, hg2, hB⟩
      obtain ⟨bb, o, rfl, _⟩ := form_pos hs (by omega)
      have ht : ends[i]? = some ends[i] := List.getElem?_eq_getElem hi
      have hk := keyE_lt hb hi
      have hbi := hb _ (List.getElem_mem hi)
      have hlt := cnt_lt (keyE ends) hi
      have hroom := hB.room hk hlt
      have hc := cnt_le (keyE ends) i (keyE ends i)
      have e0 : 0 + (ends[i] : Int).toNat * 1 = keyE ends i := by rw [keyE_at hi]; omega
      obtain ⟨T1, M2, h1, h2, h3, h4, h5, h6, _⟩ := r36 D E n bb o ends.length c i (offS (cnt (keyE ends) ends.length) (keyE ends i)) (cnt (keyE ends) i (keyE ends i)) (cnt (keyE ends) ends.length (keyE ends i) + 1) ends[i] _ _ hM1 X1 hD hE hg2 hg1 dDE (decide_eq_true (by omega)) (ld_one (P := Try.prog) (ty := 3) hs ht rfl dC3) hbi (by rw [e0]; exact rowCells_get _ _ _ hk) ⟨by omega, by omega, by omega⟩ (by rw [e0, rowCells_len]; omega)
      rw [wrap_succ (by omega)] at h2
      rw [e0, rowCells_step D _ (keyE ends) i n hk] at h6
      have hst := hB.step hk hlt
      rw [show offS (cnt (keyE ends) ends.length) (keyE ends i) + cnt (keyE ends) i (keyE ends i) = offS (cnt (keyE ends) ends.length) (keyE ends i) + cnt (keyE ends) i (keyE ends i) * 1 by omega] at hst
      exact ⟨(), T1, M2, h1, h2, h3, h4, h6, _, h5, hst⟩)
    (by
      rintro _ M1 ⟨X1, hM1, _⟩
      exact r36x E n a ends.length c ends.length (M := M1) (decide_eq_false (by omega)))
    ends.length 0 (by omega) (s := ()) (M := M) ⟨X, hM, gE, _, gD, Bk.zero (by rw [hall]; simp)⟩
  exact ⟨M', h1, h2, h3, h4, h5⟩
theorem rK28 : Try.f28.results = #[.tmp 4] := by kernel_rfl
theorem hS36_45 (B : Bd) : ∀ p ∈ ([(36, pick (Con Try.prog [] 36 Q36))] : List (FuncId × (List Value → Mem → Option (Value × Mem)))), SpecOk Try.prog [] B p.1 p.2 := (fun p hp => by simp only [List.mem_cons, List.not_mem_nil, or_false] at hp; rcases hp with rfl <;> first | exact Con.ok _)
theorem w36_raw (n : Nat) (aends : Option Addr) (cends : Nat) (ends : List Int) (M : Mem) (b1 : Nat) (M5 : Mem) (M17 : Mem) : oT Try.prog [0] 60 Try.f28 q28 [(i64 ((n : Nat) : Int)), (.slice aends ends.length cends)] M [ttV 7 (sli b1 0 n (n + 1)) M5, ttT 13, .blk 16 [5, 11, 12, 13] .normal (fr [(5, (sli b1 0 n (n + 1)))]) M17] 4 = some (.ret, some (sli b1 0 n (n + 1)), M17, [qC 36 [(i64 (((n : Nat) : Int))), (.slice aends ends.length cends)] M (sli b1 0 n (n + 1)) M5, .ln aends ends.length cends, .blk 0 (.loop (q28.loopAt 0)) Try.f28.ntmps [5, 11, 12, 13] [some (sli b1 0 n (n + 1)), some (.slice aends ends.length cends), some (i64 (((ends.length : Nat) : Int))), some (i64 0)] M5 .normal (fr [(5, (sli b1 0 n (n + 1)))]) M17]) := by kernel_rfl
theorem w36 (n : Nat) (aends : Option Addr) (cends : Nat) (ends : List Int) {M : Mem} (hM : MemOk M) (hends : pInts ends (.slice aends ends.length cends) M) (hcond : ends.length ≤ 400 ∧ n ≤ 60 ∧ ∀ x ∈ ends, 0 ≤ x ∧ x < (n : Int)) : ∃ v M', Ev Try.prog [] 28 [(i64 ((n : Nat) : Int)), (.slice aends ends.length cends)] M v M' ∧ Ext M M' ∧ MemOk M' ∧ newR pRowss (rowsOf n ends) M.next v M' := by
  obtain ⟨w3, N4, M5, p6, l7, e8, E9, hM10, F11⟩ := call_fc (x := (n, ends)) hM con36 (⟨⟨_, _, rfl, rfl, AP.Ext (R := pInts) hends (Ext.refl M)⟩, hcond⟩)
  have nx12 := E9.next
  obtain ⟨b1, b2, ew3, nb1, nb2, db2b1, gb1, gb2⟩ := F11
  subst ew3
  have nb1 := Nat.le_trans ((Ext.refl M)).next nb1
  have nb2 := Nat.le_trans ((Ext.refl M)).next nb2
  have X13 := (Ext.refl M).trans E9
  obtain ⟨M17, hL18, X19, hM20, g21, me14, gD15, hB16⟩ := loop36 hM10 X13 hends hcond.2.2 hcond.1 nb2 nb1 db2b1 gb1 gb2
  have hraw := w36_raw n aends cends ends M  b1 M5 M17
  exact ⟨(sli b1 0 n (n + 1)), M17, Ev.told_tmp noNumP mixedP Try.func28 q28_ok (by kernel_rfl) rK28 (fun B => specsB_ok (hS36_45 B) (k := [(0, bone (.loop (q28.loopAt 0)) Try.f28.ntmps [5, 11, 12, 13] [some (sli b1 0 n (n + 1)), some (.slice aends ends.length cends), some (i64 (((ends.length : Nat) : Int))), some (i64 0)] M5 .normal (fr [(5, (sli b1 0 n (n + 1)))]) M17)]) (fun p hp => by simp only [List.mem_cons, List.not_mem_nil, or_false] at hp; rcases hp with rfl <;> first | exact BlkOk.loop noNumP mixedP hL18)) (fun _ h => blksF_one h) hraw (hk (q_call rfl p6 l7 e8) (hk (lN hends.ln) (hk (q_blk rfl) hn))), X19, hM20, rowss_of (hid_of nb1 g21) (hid_of nb2 gD15) hB16 (by have := hcond.1; omega) _⟩
abbrev Q28 := FC (asP (as2 pN pInts) fun x : Nat × List Int => x.2.length ≤ 400 ∧ x.1 ≤ 60 ∧ ∀ z ∈ x.2, 0 ≤ z ∧ z < (x.1 : Int)) (newR pRowss) (fun x => rowsOf x.1 x.2)
theorem con28 {x : Nat × List Int} {lv : List Value} {M : Mem} (hM : MemOk M) (h : (asP (as2 pN pInts) fun x : Nat × List Int => x.2.length ≤ 400 ∧ x.1 ≤ 60 ∧ ∀ z ∈ x.2, 0 ≤ z ∧ z < (x.1 : Int)) x lv M) : ∃ v M', Con Try.prog [] 28 Q28 lv M v M' := by
  refine FC.con h ?_
  obtain ⟨⟨g0, g1, rfl, rfl, k1⟩, hcond⟩ := h
  obtain ⟨n, ends⟩ := x
  obtain ⟨a, c, rfl⟩ := GRowsAt.form k1
  obtain ⟨v, M', h1, h2, _, h3⟩ := w36 n a c ends hM k1 hcond
  exact ⟨v, M', h1, h2, h3⟩
end Go.Proofs.Ytipnhelkganmdaa

set_option linter.unusedVariables false
set_option linter.unusedSimpArgs false
open Go Go.Am Go.Proofs
namespace Go.Proofs.Ytipnhelkganmdaa
set_option maxRecDepth 100000
set_option linter.unusedVariables false
set_option linter.unusedSimpArgs false
theorem dA26 : (Try.prog.underlying 26).map isAggD = some true := by kernel_rfl
theorem dS26 : (Try.prog.info? 26).map (·.size) = some 2 := by kernel_rfl
theorem rK12 : Try.f12.results = #[.tmp 2] := by kernel_rfl
theorem hS26_27_34_36 (B : Bd) : ∀ p ∈ ([(25, pick (Con Try.prog [] 25 Q25)), (26, pick (Con Try.prog [] 26 Q26)), (28, pick (Con Try.prog [] 28 Q28))] : List (FuncId × (List Value → Mem → Option (Value × Mem)))), SpecOk Try.prog [] B p.1 p.2 := (fun p hp => by simp only [List.mem_cons, List.not_mem_nil, or_false] at hp; rcases hp with rfl | rfl | rfl <;> first | exact Con.ok _)
theorem w26_raw (n : Nat) (al : Option Addr) (cl : Nat) (l : List E4) (M : Mem) (b1 : Nat) (M2 : Mem) (M12 : Mem) (a22 : Option Addr) (c23 : Nat) (M26 : Mem) (a44 : Option Addr) (c45 : Nat) (M48 : Mem) (E61 : Nat) (c62 : Nat) (M65 : Mem) (E80 : Nat) (c81 : Nat) (M84 : Mem) (a100 : Option Addr) (c101 : Nat) (M104 : Mem) (b120 : Nat) (M121 : Mem) : oT Try.prog [] 51 Try.f12 q12 [(.agg ⟨[(i64 (((n : Nat) : Int))), (.slice al l.length cl)]⟩)] M [ttV 1 (pt b1 0) M2, ttL 5 (.agg ⟨[(i64 (((n : Nat) : Int))), (.slice al l.length cl)]⟩), ttV 7 (.bool (chkN ((n : Nat) : Int) l)) M12, ttF 10, ttL 14 (.slice al l.length cl), ttV 16 (.slice a22 l.length c23) M26, ttL 22 (i64 (((n : Nat) : Int))), ttL 26 (.slice al l.length cl), ttV 28 (.slice a44 l.length c45) M48, ttV 30 (sli E61 0 n c62) M65, ttL 34 (i64 (((n : Nat) : Int))), ttV 38 (sli E80 0 n c81) M84, ttL 44 (.slice al l.length cl), ttV 46 (.slice a100 l.length c101) M104, ttV 50 (pt b120 0) M121] 2 = some (.ret, some (pt b120 0), (Mem.mk M121.blks M121.next M26.hide (M121.log ++ M26.log)), [.eq (abox Try.prog 26 (.agg ⟨[(i64 (((n : Nat) : Int))), (.slice al l.length cl)]⟩) M) (1, .val (pt b1 0), M2), qL 26 b1 0 M2 (.agg ⟨[(i64 (((n : Nat) : Int))), (.slice al l.length cl)]⟩), qC 25 [(.agg ⟨[(i64 (((n : Nat) : Int))), (.slice al l.length cl)]⟩)] M2 (.bool (chkN ((n : Nat) : Int) l)) M12, qF (!(chkN ((n : Nat) : Int) l)), qL 24 b1 1 M12 (.slice al l.length cl), qC 26 [(.slice al l.length cl), (.func (.func 27) ⟨[]⟩ ⟨[]⟩)] M12 (.slice a22 l.length c23) M26, qL 3 b1 0 (Mem.mk M26.blks M26.next M26.hide []) (i64 (((n : Nat) : Int))), qT (Nat.blt b1 M26.next), qL 24 b1 1 (Mem.mk M26.blks M26.next M26.hide []) (.slice al l.length cl), qC 26 [(.slice al l.length cl), (.func (.func 29) ⟨[]⟩ ⟨[]⟩)] (Mem.mk M26.blks M26.next M26.hide []) (.slice a44 l.length c45) M48, qC 28 [(i64 (((n : Nat) : Int))), (.slice a44 l.length c45)] (Mem.mk M48.blks M48.next M26.hide M48.log) (sli E61 0 n c62) M65, qL 3 b1 0 (Mem.mk M65.blks M65.next (hides 64 [⟨5, 1, M48.next, M65.next⟩, ⟨4, 1, M26.next, M48.next⟩, ⟨3, 1, M26.next, M26.next⟩] ++ M26.hide) M65.log) (i64 (((n : Nat) : Int))), qT (Nat.blt b1 M26.next), qC 28 [(i64 (((n : Nat) : Int))), (.slice a22 l.length c23)] (Mem.mk M65.blks M65.next M26.hide M65.log) (sli E80 0 n c81) M84, qL 24 b1 1 (Mem.mk M84.blks M84.next (hides 2048 [⟨9, 1, M65.next, M84.next⟩, ⟨5, 1, M48.next, M65.next⟩, ⟨4, 1, M26.next, M48.next⟩, ⟨3, 1, M26.next, M26.next⟩] ++ M26.hide) M84.log) (.slice al l.length cl), qT (Nat.blt b1 M26.next), qC 26 [(.slice al l.length cl), (.func (.func 30) ⟨[]⟩ ⟨[]⟩)] (Mem.mk M84.blks M84.next M26.hide M84.log) (.slice a100 l.length c101) M104, .eq (abox Try.prog 48 (.agg ⟨[(sli E61 0 n c62), (sli E80 0 n c81), (.slice a22 l.length c23), (.slice a100 l.length c101)]⟩) (Mem.mk M104.blks M104.next M26.hide M104.log)) (1, .val (pt b120 0), M121), qT (apartN [b1, b1, b1] M121.log)]) := by kernel_rfl
theorem w26 (n : Nat) (al : Option Addr) (cl : Nat) (l : List E4) {M : Mem} (hM : MemOk M) (hl : pEdges l (.slice al l.length cl) M) (hck : chkN ((n : Nat) : Int) l = true) (hcd : 1 ≤ ((n : Nat) : Int) ∧ ((n : Nat) : Int) ≤ 60 ∧ l.length ≤ 400 ∧ ∀ e ∈ l, 0 ≤ e.f ∧ e.f < ((n : Nat) : Int) ∧ 0 ≤ e.t ∧ e.t < ((n : Nat) : Int) ∧ okM e) : ∃ v M', Ev Try.prog [] 12 [(.agg ⟨[(i64 (((n : Nat) : Int))), (.slice al l.length cl)]⟩)] M v M' ∧ Ext M M' ∧ MemOk M' ∧ newR (pAdj 48) (adjM n l) M.next v M' := by
  obtain ⟨b1, M2, eb3, em4, g5, E6, hM7⟩ := new_t hM ⟨[(i64 (((n : Nat) : Int))), (.slice al l.length cl)], 26, 2, 0, true⟩
  have nb1 : M.next ≤ b1 := by rw [← eb3]; exact (Ext.refl M).next
  have nx8 := E6.next
  have X9 := (Ext.refl M).trans E6
  have ltb1M12 := Mem.lt_of_get g5
  obtain ⟨w10, N11, M12, p13, l14, e15, E16, hM17, F18⟩ := call_fc (x := (((n : Nat) : Int), l)) hM7 con25 (⟨_, rfl, _, rfl, AP.Ext (R := pEdges) hl X9⟩)
  have nx19 := E16.next
  have g20 := E16.old g5
  have ew10 : w10 = (.bool (chkN ((n : Nat) : Int) l)) := F18
  subst ew10
  have X21 := X9.trans E16
  have ltb1M26 := Mem.lt_of_get g20
  obtain ⟨w24, N25, M26, p27, l28, e29, E30, hM31, F32⟩ := call_fc (x := (l, Tell.to)) hM17 con26 (⟨⟨_, _, rfl, AP.Ext (R := pEdges) hl X21, rfl⟩, hcd.2.2.1, fun e he => (hcd.2.2.2 e he).2.2.2.2⟩)
  have nx33 := E30.next
  have g34 := E30.old g20
  have G35 : pInts (l.map (tellE .to)) w24 (hidx [(0, M12.next)] M26) := hx_of F32
  obtain ⟨a22, c23, ew24⟩ := GRowsAt.form G35
  rw [List.length_map] at ew24
  subst ew24
  have X36 := X21.trans E30
  obtain ⟨R37, eR38⟩ : ∃ m : Mem, m = Mem.mk M26.blks M26.next M26.hide [] := ⟨_, rfl⟩
  have X39 : Ext (Mem.mk M.blks M.next M.hide []) R37 := by rw [eR38]; exact Ext.aside (X36)
  have lg40 : R37.log = [] := by rw [eR38]
  have nxR37 : R37.next = M26.next := by rw [eR38]
  have hM41 : MemOk R37 := by rw [eR38]; exact MemOk.log hM31
  have ltb1M26 : b1 < M26.next := by have h := Mem.lt_of_get g34; exact h
  have g42 : R37.get b1 = some ⟨[(i64 (((n : Nat) : Int))), (.slice al l.length cl)], 26, 2, 0, true⟩ := by rw [eR38]; exact g34
  have F43 := hx_still (R := pInts) (M' := R37) G35 (fun id b h => by rw [eR38]; exact h)
  have ltb1M48 := Mem.lt_of_get g42
  obtain ⟨w46, N47, M48, p49, l50, e51, E52, hM53, F54⟩ := call_fc (x := (l, Tell.fr)) hM41 con26 (⟨⟨_, _, rfl, AP.Ext (R := pEdges) (AP.log (R := pEdges) hl) X39, rfl⟩, hcd.2.2.1, fun e he => (hcd.2.2.2 e he).2.2.2.2⟩)
  have nx55 := E52.next
  have F56 := hx_ext (R := pInts) F43 E52
  have g57 := E52.old g42
  have G58 : pInts (l.map (tellE .fr)) w46 (hidx [(0, R37.next)] M48) := hx_of F54
  obtain ⟨a44, c45, ew46⟩ := GRowsAt.form G58
  rw [List.length_map] at ew46
  subst ew46
  have lg59 : M48.log = [] := by rw [← e51]; exact lg40
  have X60 := X39.trans E52
  have ltb1M65 := Mem.lt_of_get g57
  obtain ⟨w63, N64, M65, p66, l67, e68, E69, hM70, F71⟩ := call_fc (x := (n, l.map (tellE .fr))) hM53 con28 (⟨⟨_, _, rfl, rfl, hx_out (R := pInts) G58⟩, by simpa using hcd.2.2.1, by have := hcd.2.1; omega, tell_range hck (by simp)⟩)
  have nx72 := E69.next
  have F73 := hx_ext (R := pInts) F56 E69
  have F74 := hx_ext (R := pInts) G58 E69
  have g75 := E69.old g57
  have G76 : pRowss (rowsOf n (l.map (tellE .fr))) w63 (hidx [(0, M48.next)] M65) := hx_of F71
  obtain ⟨E61, c62, bl77, ew63, _⟩ := id G76
  rw [rowsOf_len] at ew63
  subst ew63
  have lg78 : M65.log = [] := by rw [← e68]; exact lg59
  have X79 := X60.trans E69
  have ltb1M84 := Mem.lt_of_get g75
  obtain ⟨w82, N83, M84, p85, l86, e87, E88, hM89, F90⟩ := call_fc (x := (n, l.map (tellE .to))) hM70 con28 (⟨⟨_, _, rfl, rfl, hx_out (R := pInts) F73⟩, by simpa using hcd.2.2.1, by have := hcd.2.1; omega, tell_range hck (by simp)⟩)
  have nx91 := E88.next
  have F92 := hx_ext (R := pInts) F73 E88
  have F93 := hx_ext (R := pInts) F74 E88
  have F94 := hx_ext (R := pRowss) G76 E88
  have g95 := E88.old g75
  have G96 : pRowss (rowsOf n (l.map (tellE .to))) w82 (hidx [(0, M65.next)] M84) := hx_of F90
  obtain ⟨E80, c81, bl97, ew82, _⟩ := id G96
  rw [rowsOf_len] at ew82
  subst ew82
  have lg98 : M84.log = [] := by rw [← e87]; exact lg78
  have X99 := X79.trans E88
  have ltb1M104 := Mem.lt_of_get g95
  obtain ⟨w102, N103, M104, p105, l106, e107, E108, hM109, F110⟩ := call_fc (x := (l, Tell.set)) hM89 con26 (⟨⟨_, _, rfl, AP.Ext (R := pEdges) (AP.log (R := pEdges) hl) X99, rfl⟩, hcd.2.2.1, fun e he => (hcd.2.2.2 e he).2.2.2.2⟩)
  have nx111 := E108.next
  have F112 := hx_ext (R := pInts) F92 E108
  have F113 := hx_ext (R := pInts) F93 E108
  have F114 := hx_ext (R := pRowss) F94 E108
  have F115 := hx_ext (R := pRowss) G96 E108
  have g116 := E108.old g95
  have G117 : pInts (l.map (tellE .set)) w102 (hidx [(0, M84.next)] M104) := hx_of F110
  obtain ⟨a100, c101, ew102⟩ := GRowsAt.form G117
  rw [List.length_map] at ew102
  subst ew102
  have lg118 : M104.log = [] := by rw [← e107]; exact lg98
  have X119 := X99.trans E108
  obtain ⟨b120, M121, eb122, em123, g124, E125, hM126⟩ := new_t hM109 ⟨[(sli E61 0 n c62), (sli E80 0 n c81), (.slice a22 l.length c23), (.slice a100 l.length c101)], 48, 4, 0, true⟩
  have nb120 : M.next ≤ b120 := by rw [← eb122]; exact X119.next
  have db1b120 : b1 ≠ b120 := by have := Mem.lt_of_get g116; omega
  have F127 := hx_new (R := pInts) F112 eb122 E125
  have F128 := hx_new (R := pInts) F113 eb122 E125
  have F129 := hx_new (R := pRowss) F114 eb122 E125
  have F130 := hx_new (R := pRowss) F115 eb122 E125
  have F131 := hx_new (R := pInts) G117 eb122 E125
  have g132 := E125.old g116
  have lg133 : M121.log = [] := by rw [← em123]; exact lg118
  have nx134 := E125.next
  have X135 := X119.trans E125
  obtain ⟨M136, ef137⟩ : ∃ m : Mem, m = (Mem.mk M121.blks M121.next M121.hide (M121.log ++ M26.log)) := ⟨_, rfl⟩
  have X138 : Ext M M136 := by rw [ef137]; exact Ext.join (X36) (X135)
  have hM139 : MemOk M136 := by rw [ef137]; exact hM126
  have g140 : M136.get b1 = some ⟨[(i64 (((n : Nat) : Int))), (.slice al l.length cl)], 26, 2, 0, true⟩ := by rw [ef137]; exact g132
  have g141 : M136.get b120 = some ⟨[(sli E61 0 n c62), (sli E80 0 n c81), (.slice a22 l.length c23), (.slice a100 l.length c101)], 48, 4, 0, true⟩ := by rw [ef137]; exact g124
  have F142 := hx_still (R := pInts) (M' := M136) F127 (fun id b h => by rw [ef137]; exact h)
  have F143 := hx_still (R := pInts) (M' := M136) F128 (fun id b h => by rw [ef137]; exact h)
  have F144 := hx_still (R := pRowss) (M' := M136) F129 (fun id b h => by rw [ef137]; exact h)
  have F145 := hx_still (R := pRowss) (M' := M136) F130 (fun id b h => by rw [ef137]; exact h)
  have F146 := hx_still (R := pInts) (M' := M136) F131 (fun id b h => by rw [ef137]; exact h)
  have hraw := w26_raw n al cl l M  b1 M2 M12 a22 c23 M26 a44 c45 M48 E61 c62 M65 E80 c81 M84 a100 c101 M104 b120 M121
  have rw0 : Mem.mk M26.blks M26.next M26.hide [] = R37 := eR38.symm
  have rw1 : Mem.mk M48.blks M48.next M26.hide M48.log = M48 := by rw [(show M26.hide = M48.hide from ((X36).hide.trans (X60).hide.symm))]
  have rw2 : Mem.mk M65.blks M65.next M26.hide M65.log = M65 := by rw [(show M26.hide = M65.hide from ((X36).hide.trans (X79).hide.symm))]
  have rw3 : Mem.mk M65.blks M65.next (hides 64 [⟨5, 1, M48.next, M65.next⟩, ⟨4, 1, M26.next, M48.next⟩, ⟨3, 1, M26.next, M26.next⟩] ++ M26.hide) M65.log = hidx (hides 64 [⟨5, 1, M48.next, M65.next⟩, ⟨4, 1, M26.next, M48.next⟩, ⟨3, 1, M26.next, M26.next⟩]) M65 := by rw [(show M26.hide = M65.hide from ((X36).hide.trans (X79).hide.symm))]; rfl
  have rw4 : Mem.mk M84.blks M84.next M26.hide M84.log = M84 := by rw [(show M26.hide = M84.hide from ((X36).hide.trans (X99).hide.symm))]
  have rw5 : Mem.mk M84.blks M84.next (hides 2048 [⟨9, 1, M65.next, M84.next⟩, ⟨5, 1, M48.next, M65.next⟩, ⟨4, 1, M26.next, M48.next⟩, ⟨3, 1, M26.next, M26.next⟩] ++ M26.hide) M84.log = hidx (hides 2048 [⟨9, 1, M65.next, M84.next⟩, ⟨5, 1, M48.next, M65.next⟩, ⟨4, 1, M26.next, M48.next⟩, ⟨3, 1, M26.next, M26.next⟩]) M84 := by rw [(show M26.hide = M84.hide from ((X36).hide.trans (X99).hide.symm))]; rfl
  have rw6 : Mem.mk M104.blks M104.next M26.hide M104.log = M104 := by rw [(show M26.hide = M104.hide from ((X36).hide.trans (X119).hide.symm))]
  have rw7 : Mem.mk M121.blks M121.next M26.hide M121.log = M121 := by rw [(show M26.hide = M121.hide from ((X36).hide.trans (X135).hide.symm))]
  have rw8 : (Mem.mk M121.blks M121.next M26.hide (M121.log ++ M26.log)) = (Mem.mk M121.blks M121.next M121.hide (M121.log ++ M26.log)) := by rw [(show M26.hide = M121.hide from ((X36).hide.trans (X135).hide.symm))]
  have rw9 : (Mem.mk M121.blks M121.next M121.hide (M121.log ++ M26.log)) = M136 := ef137.symm
  try rw [rw0] at hraw
  try rw [rw1] at hraw
  try rw [rw2] at hraw
  try rw [rw3] at hraw
  try rw [rw4] at hraw
  try rw [rw5] at hraw
  try rw [rw6] at hraw
  try rw [rw7] at hraw
  try rw [rw8] at hraw
  try rw [rw9] at hraw
  exact ⟨(pt b120 0), M136, Ev.told_tmp noNumP mixedP Try.func12 q12_ok (by kernel_rfl) rK12 (fun B => specsB_ok (k := []) (hS26_27_34_36 B) (fun p hp => by cases hp)) (fun _ _ => rfl) hraw (hk (q_eq (by rw [← eb3, ← em4]; kernel_rfl) Nat.one_ne_zero) (hk (lA ⟨dA26, dS26⟩ g5 rfl) (hk (q_call rfl p13 l14 e15) (hk (bF (by rw [hck]; rfl)) (hk (lC dC24 g20 rfl) (hk (q_call rfl p27 l28 e29) (hk (lC dC3 g42 rfl) (hk (q_lt ltb1M26) (hk (lC dC24 g42 rfl) (hk (q_call rfl p49 l50 e51) (hk (q_call rfl p66 l67 e68) (hk (lC dC3 (hidx_get.2 ⟨hides_low (by simp; omega), g75⟩) rfl) (hk (q_lt ltb1M26) (hk (q_call rfl p85 l86 e87) (hk (lC dC24 (hidx_get.2 ⟨hides_low (by simp; omega), g95⟩) rfl) (hk (q_lt ltb1M26) (hk (q_call rfl p105 l106 e107) (hk (q_eq (by rw [← eb122, ← em123]; kernel_rfl) Nat.one_ne_zero) (hk (q_apart (by rw [lg133]; simp <;> omega)) hn))))))))))))))))))), X138, hM139, ⟨b120, _, _, _, _, rfl, hid_of nb120 g141, hx_to (R := pRowss) F144 (by intro id hh; simp only [hidden_con] at hh; omega), hx_to (R := pRowss) F145 (by intro id hh; simp only [hidden_con] at hh; omega), hx_to (R := pInts) F142 (by intro id hh; simp only [hidden_con] at hh; omega), hx_to (R := pInts) F146 (by intro id hh; simp only [hidden_con] at hh; omega)⟩⟩
abbrev Q12 := FC (asP (as1 pNetN) fun x => chkN ((x.1 : Nat) : Int) x.2 = true) (newR (pAdj 48)) (fun x => adjM x.1 x.2)
theorem con12 {x : Nat × List E4} {lv : List Value} {M : Mem} (hM : MemOk M) (h : (asP (as1 pNetN) fun x : Nat × List E4 => chkN ((x.1 : Nat) : Int) x.2 = true) x lv M) : ∃ v M', Con Try.prog [] 12 Q12 lv M v M' := by
  refine FC.con h ?_
  obtain ⟨⟨g0, rfl, k0⟩, hck⟩ := h
  obtain ⟨n, l⟩ := x
  obtain ⟨_, rfl, hl⟩ := k0
  obtain ⟨a, c, rfl⟩ := GRowsAt.form hl
  obtain ⟨v, M', h1, h2, _, h3⟩ := w26 n a c l hM hl hck (chkN_spec hck)
  exact ⟨v, M', h1, h2, h3⟩
end Go.Proofs.Ytipnhelkganmdaa

set_option linter.unusedVariables false
set_option linter.unusedSimpArgs false
open Go Go.Am Go.Proofs
namespace Go.Proofs.Ytipnhelkganmdaa
set_option maxRecDepth 100000
set_option linter.unusedVariables false
set_option linter.unusedSimpArgs false
theorem dC46 : (Try.prog.underlying 46).map isAggD = some false := by kernel_rfl
theorem rK31 : Try.f31.results = #[.tmp 4] := by kernel_rfl
theorem w44_0_raw (E c : Nat) (rs : List (List Int)) (v : Int) (r : List Int) (ar : Option Addr) (cr : Nat) (M : Mem)  : oT Try.prog [] 51 Try.f31 q31 [(sli E 0 rs.length c), (i64 v)] M [ttT 8, ttT 10, ttT 12, ttT 14, ttT 17] 4 = some (.ret, some sln, M, [qT (decide (v < (0 : Int))), qT (decide (v < (0 : Int))), qT (decide (v < (0 : Int))), qT (decide (v < (0 : Int))), qT (decide (v < (0 : Int)))]) := by kernel_rfl
theorem w44_0 (E c : Nat) (rs : List (List Int)) (v : Int) (r : List Int) (ar : Option Addr) (cr : Nat) {M : Mem} (hM : MemOk M) (cc0 : (decide (v < (0 : Int))) = true) : ∃ v_ M', Ev Try.prog [] 31 [(sli E 0 rs.length c), (i64 v)] M v_ M' ∧ Ext M M' ∧ MemOk M' ∧ v_ = sln ∧ M' = M := by
  have hraw := w44_0_raw E c rs v r ar cr M  
  exact ⟨sln, M, Ev.told_tmp noNumP mixedP Try.func31 q31_ok (by kernel_rfl) rK31 (specs_none Try.prog) (fun _ _ => rfl) hraw (hk (bT cc0) (hk (bT cc0) (hk (bT cc0) (hk (bT cc0) (hk (bT cc0) hn))))), (Ext.refl M), hM, ⟨rfl, rfl⟩⟩
theorem w44_1_raw (E c : Nat) (rs : List (List Int)) (v : Int) (r : List Int) (ar : Option Addr) (cr : Nat) (M : Mem)  : oT Try.prog [] 51 Try.f31 q31 [(sli E 0 rs.length c), (i64 v)] M [ttF 8, ttF 10, ttF 12, ttF 14, ttF 17, ttT 18] 4 = some (.ret, some sln, M, [qF (decide (v < (0 : Int))), qF (decide (v < (0 : Int))), qF (decide (v < (0 : Int))), qF (decide (v < (0 : Int))), qF (decide (v < (0 : Int))), qT (decide (v ≥ (((rs.length : Nat) : Int))))]) := by kernel_rfl
theorem w44_1 (E c : Nat) (rs : List (List Int)) (v : Int) (r : List Int) (ar : Option Addr) (cr : Nat) {M : Mem} (hM : MemOk M) (cc0 : (decide (v < (0 : Int))) = false) (cc1 : (decide (v ≥ (((rs.length : Nat) : Int)))) = true) : ∃ v_ M', Ev Try.prog [] 31 [(sli E 0 rs.length c), (i64 v)] M v_ M' ∧ Ext M M' ∧ MemOk M' ∧ v_ = sln ∧ M' = M := by
  have hraw := w44_1_raw E c rs v r ar cr M  
  exact ⟨sln, M, Ev.told_tmp noNumP mixedP Try.func31 q31_ok (by kernel_rfl) rK31 (specs_none Try.prog) (fun _ _ => rfl) hraw (hk (bF cc0) (hk (bF cc0) (hk (bF cc0) (hk (bF cc0) (hk (bF cc0) (hk (bT cc1) hn)))))), (Ext.refl M), hM, ⟨rfl, rfl⟩⟩
theorem w44_2_raw (E c : Nat) (rs : List (List Int)) (v : Int) (r : List Int) (ar : Option Addr) (cr : Nat) (M : Mem)  : oT Try.prog [] 51 Try.f31 q31 [(sli E 0 rs.length c), (i64 v)] M [ttF 8, ttF 10, ttF 12, ttF 14, ttF 17, ttF 18, ttT 24, ttL 26 (.slice ar r.length cr)] 4 = some (.ret, some (.slice ar r.length cr), M, [qF (decide (v < (0 : Int))), qF (decide (v < (0 : Int))), qF (decide (v < (0 : Int))), qF (decide (v < (0 : Int))), qF (decide (v < (0 : Int))), qF (decide (v ≥ (((rs.length : Nat) : Int)))), .q (.inb v rs.length) (ansB true), qL 22 E (0 + (v : Int).toNat * 1) M (.slice ar r.length cr)]) := by kernel_rfl
theorem w44_2 (E c : Nat) (rs : List (List Int)) (v : Int) (r : List Int) (ar : Option Addr) (cr : Nat) {M : Mem} (hM : MemOk M) (cc0 : (decide (v < (0 : Int))) = false) (cc1 : (decide (v ≥ (((rs.length : Nat) : Int)))) = false) (hi0 : 0 ≤ (v : Int) ∧ (v : Int) < rs.length) (hld1 : aload Try.prog 22 ⟨E, 0 + (v : Int).toNat * 1, none⟩ M = some (.slice ar r.length cr)) : ∃ v_ M', Ev Try.prog [] 31 [(sli E 0 rs.length c), (i64 v)] M v_ M' ∧ Ext M M' ∧ MemOk M' ∧ v_ = (.slice ar r.length cr) ∧ M' = M := by
  have hraw := w44_2_raw E c rs v r ar cr M  
  exact ⟨(.slice ar r.length cr), M, Ev.told_tmp noNumP mixedP Try.func31 q31_ok (by kernel_rfl) rK31 (specs_none Try.prog) (fun _ _ => rfl) hraw (hk (bF cc0) (hk (bF cc0) (hk (bF cc0) (hk (bF cc0) (hk (bF cc0) (hk (bF cc1) (hk (q_inb hi0.1 hi0.2) (hk (q_ld (hld1)) hn)))))))), (Ext.refl M), hM, ⟨rfl, rfl⟩⟩
abbrev Q31 := FC (as2 pRowss pI) (plain pInts) (fun x => rowV x.1 x.2)
theorem con31 {x : List (List Int) × Int} {lv : List Value} {M : Mem} (hM : MemOk M) (h : (as2 pRowss pI) x lv M) : ∃ v M', Con Try.prog [] 31 Q31 lv M v M' := by
  refine FC.con h ?_
  obtain ⟨g0, g1, rfl, k0, k1⟩ := h
  obtain ⟨rs, v⟩ := x
  obtain rfl := k1
  obtain ⟨E, c, rfl⟩ := rowss_form k0
  by_cases h0 : v < 0
  · obtain ⟨v', M', h1, h2, _, rfl, rfl⟩ := w44_0 E c rs v [] none 0 hM (decide_eq_true h0)
    refine ⟨_, _, h1, h2, ?_⟩
    show pInts (rowV rs v) _ _
    rw [show rowV rs v = [] by unfold rowV; rw [if_neg (by omega)]]
    exact GRowsAt.nil none
  · by_cases h1 : v < (rs.length : Int)
    · have hu : rs[v.toNat]? = some rs[v.toNat] := List.getElem?_eq_getElem (by omega)
      obtain ⟨ar, cr, h2, h3⟩ := ld_rowss (P := Try.prog) (ty := 22) k0 hu dC22
      obtain ⟨v', M', k1, k2, _, rfl, rfl⟩ := w44_2 E c rs v rs[v.toNat] ar cr hM (decide_eq_false h0) (decide_eq_false (by omega)) (by omega) h2
      refine ⟨_, _, k1, k2, ?_⟩
      show pInts (rowV rs v) _ _
      rw [show rowV rs v = rs[v.toNat] by unfold rowV; rw [if_pos (by omega), hu]; rfl]
      exact h3
    · obtain ⟨v', M', k1, k2, _, rfl, rfl⟩ := w44_1 E c rs v [] none 0 hM (decide_eq_false h0) (decide_eq_true (by omega))
      refine ⟨_, _, k1, k2, ?_⟩
      show pInts (rowV rs v) _ _
      rw [show rowV rs v = [] by unfold rowV; rw [if_pos (by omega), List.getElem?_eq_none (by omega)]; rfl]
      exact GRowsAt.nil none
theorem rK13 : Try.f13.results = #[.tmp 4] := by kernel_rfl
theorem hS32_44 (B : Bd) : ∀ p ∈ ([(31, pick (Con Try.prog [] 31 Q31))] : List (FuncId × (List Value → Mem → Option (Value × Mem)))), SpecOk Try.prog [] B p.1 p.2 := (fun p hp => by simp only [List.mem_cons, List.not_mem_nil, or_false] at hp; rcases hp with rfl <;> first | exact Con.ok _)
theorem w32_raw (ab Eo Ei : Nat) (co ci : Nat) (at_ : Option Addr) (ct : Nat) (as_ : Option Addr) (cs_ : Nat) (ad : AdjM) (v : Int) (M : Mem) (a1 : Option Addr) (c2 : Nat) (M6 : Mem) (v16 : Value) (M17 : Mem) : oT Try.prog [] 51 Try.f13 q13 [(pt ab 0), (i64 v)] M [ttL 9 (sli Eo 0 ad.out.length co), ttV 13 (.slice a1 (rowV ad.out v).length c2) M6, ttV 15 v16 M17] 4 = some (.ret, some v16, M17, [qL 46 ab 0 M (sli Eo 0 ad.out.length co), qC 31 [(sli Eo 0 ad.out.length co), (i64 v)] M (.slice a1 (rowV ad.out v).length c2) M6, .q (.append [22, 22] sln (.slice a1 (rowV ad.out v).length c2) M6) (1, .val v16, M17)]) := by kernel_rfl
theorem w32 (ab Eo Ei : Nat) (co ci : Nat) (at_ : Option Addr) (ct : Nat) (as_ : Option Addr) (cs_ : Nat) (ad : AdjM) (v : Int) {M : Mem} (hM : MemOk M) (gab : M.get ab = some ⟨[sli Eo 0 ad.out.length co, sli Ei 0 ad.inn.length ci, .slice at_ ad.to.length ct, .slice as_ ad.set.length cs_], 48, 4, 0, true⟩) (hout : pRowss ad.out (sli Eo 0 ad.out.length co) M) (hinn : pRowss ad.inn (sli Ei 0 ad.inn.length ci) M) (hto : pInts ad.to (.slice at_ ad.to.length ct) M) (hset : pInts ad.set (.slice as_ ad.set.length cs_) M) (hok : okA ad) : ∃ v_ M', Ev Try.prog [] 13 [(pt ab 0), (i64 v)] M v_ M' ∧ Ext M M' ∧ MemOk M' ∧ newR pInts (rowV ad.out v) M.next v_ M' := by
  have ltabM6 := Mem.lt_of_get gab
  obtain ⟨w4, N5, M6, p7, l8, e9, E10, hM11, F12⟩ := call_fc (x := (ad.out, v)) hM con31 (⟨_, _, rfl, AP.Ext (R := pRowss) hout (Ext.refl M), rfl⟩)
  have nx13 := E10.next
  have g14 := E10.old gab
  have G3 : pInts (rowV ad.out v) w4 M6 := F12
  obtain ⟨a1, c2, ew4⟩ := GRowsAt.form G3
  subst ew4
  have X15 := (Ext.refl M).trans E10
  obtain ⟨v16, M17, q18, F21, E19, hM20, nw22⟩ := append_rowN (P := Try.prog) (sT := 22) (xT := 22) (elem := 3) (w := 1) (y := 8) hM11 (by kernel_rfl) (by kernel_rfl) (by kernel_rfl) (by decide) (by decide) rfl G3 (rowV_ok (p := fun r => r.length ≤ 1073741824) (fun r hr => Nat.le_trans (hok.1 r hr).1 (by decide)) (by decide) v) (fun _ _ => rfl)
  have F23 := AP.Ext (R := pInts) G3 E19
  have g24 := E19.old g14
  have X25 := X15.trans E19
  have hraw := w32_raw ab Eo Ei co ci at_ ct as_ cs_ ad v M  a1 c2 M6 v16 M17
  exact ⟨v16, M17, Ev.told_tmp noNumP mixedP Try.func13 q13_ok (by kernel_rfl) rK13 (fun B => specsB_ok (k := []) (hS32_44 B) (fun p hp => by cases hp)) (fun _ _ => rfl) hraw (hk (lC dC46 gab rfl) (hk (q_call rfl p7 l8 e9) (hk (q_app q18 Nat.one_ne_zero) hn))), X25, hM20, nw_new (X15).next (fun _ _ => rfl) (Nat.le_trans (rowV_ok (p := fun r => r.length ≤ 400) (fun r hr => (hok.1 r hr).1) (by decide) v) (by decide)) nw22⟩
abbrev Q13 := FC (asP (as2 (pAdj 48) pI) fun x => okA x.1) (newR pInts) (fun x => rowV x.1.out x.2)
theorem con13 {x : AdjM × Int} {lv : List Value} {M : Mem} (hM : MemOk M) (h : (asP (as2 (pAdj 48) pI) fun x : AdjM × Int => okA x.1) x lv M) : ∃ v M', Con Try.prog [] 13 Q13 lv M v M' := by
  refine FC.con h ?_
  obtain ⟨⟨g0, g1, rfl, k0, k1⟩, hok⟩ := h
  obtain ⟨ad, v⟩ := x
  obtain rfl := k1
  obtain ⟨ab, o, i_, t, s, rfl, gab, hout, hinn, hto, hset⟩ := k0
  obtain ⟨Eo, co, rfl⟩ := rowss_form hout
  obtain ⟨Ei, ci, rfl⟩ := rowss_form hinn
  obtain ⟨at_, ct, rfl⟩ := GRowsAt.form hto
  obtain ⟨as_, cs_, rfl⟩ := GRowsAt.form hset
  obtain ⟨v', M', h1, h2, _, h3⟩ := w32 ab Eo Ei co ci at_ ct as_ cs_ ad v hM gab hout hinn hto hset hok
  exact ⟨v', M', h1, h2, h3⟩
theorem rK14 : Try.f14.results = #[.tmp 4] := by kernel_rfl
theorem hS33_44 (B : Bd) : ∀ p ∈ ([(31, pick (Con Try.prog [] 31 Q31))] : List (FuncId × (List Value → Mem → Option (Value × Mem)))), SpecOk Try.prog [] B p.1 p.2 := (fun p hp => by simp only [List.mem_cons, List.not_mem_nil, or_false] at hp; rcases hp with rfl <;> first | exact Con.ok _)
theorem w33_raw (ab Eo Ei : Nat) (co ci : Nat) (at_ : Option Addr) (ct : Nat) (as_ : Option Addr) (cs_ : Nat) (ad : AdjM) (v : Int) (M : Mem) (a1 : Option Addr) (c2 : Nat) (M6 : Mem) (v16 : Value) (M17 : Mem) : oT Try.prog [] 51 Try.f14 q14 [(pt ab 0), (i64 v)] M [ttL 9 (sli Ei 0 ad.inn.length ci), ttV 13 (.slice a1 (rowV ad.inn v).length c2) M6, ttV 15 v16 M17] 4 = some (.ret, some v16, M17, [qL 46 ab 1 M (sli Ei 0 ad.inn.length ci), qC 31 [(sli Ei 0 ad.inn.length ci), (i64 v)] M (.slice a1 (rowV ad.inn v).length c2) M6, .q (.append [22, 22] sln (.slice a1 (rowV ad.inn v).length c2) M6) (1, .val v16, M17)]) := by kernel_rfl
theorem w33 (ab Eo Ei : Nat) (co ci : Nat) (at_ : Option Addr) (ct : Nat) (as_ : Option Addr) (cs_ : Nat) (ad : AdjM) (v : Int) {M : Mem} (hM : MemOk M) (gab : M.get ab = some ⟨[sli Eo 0 ad.out.length co, sli Ei 0 ad.inn.length ci, .slice at_ ad.to.length ct, .slice as_ ad.set.length cs_], 48, 4, 0, true⟩) (hout : pRowss ad.out (sli Eo 0 ad.out.length co) M) (hinn : pRowss ad.inn (sli Ei 0 ad.inn.length ci) M) (hto : pInts ad.to (.slice at_ ad.to.length ct) M) (hset : pInts ad.set (.slice as_ ad.set.length cs_) M) (hok : okA ad) : ∃ v_ M', Ev Try.prog [] 14 [(pt ab 0), (i64 v)] M v_ M' ∧ Ext M M' ∧ MemOk M' ∧ newR pInts (rowV ad.inn v) M.next v_ M' := by
  have ltabM6 := Mem.lt_of_get gab
  obtain ⟨w4, N5, M6, p7, l8, e9, E10, hM11, F12⟩ := call_fc (x := (ad.inn, v)) hM con31 (⟨_, _, rfl, AP.Ext (R := pRowss) hinn (Ext.refl M), rfl⟩)
  have nx13 := E10.next
  have g14 := E10.old gab
  have G3 : pInts (rowV ad.inn v) w4 M6 := F12
  obtain ⟨a1, c2, ew4⟩ := GRowsAt.form G3
  subst ew4
  have X15 := (Ext.refl M).trans E10
  obtain ⟨v16, M17, q18, F21, E19, hM20, nw22⟩ := append_rowN (P := Try.prog) (sT := 22) (xT := 22) (elem := 3) (w := 1) (y := 8) hM11 (by kernel_rfl) (by kernel_rfl) (by kernel_rfl) (by decide) (by decide) rfl G3 (rowV_ok (p := fun r => r.length ≤ 1073741824) (fun r hr => Nat.le_trans (hok.2.1 r hr).1 (by decide)) (by decide) v) (fun _ _ => rfl)
  have F23 := AP.Ext (R := pInts) G3 E19
  have g24 := E19.old g14
  have X25 := X15.trans E19
  have hraw := w33_raw ab Eo Ei co ci at_ ct as_ cs_ ad v M  a1 c2 M6 v16 M17
  exact ⟨v16, M17, Ev.told_tmp noNumP mixedP Try.func14 q14_ok (by kernel_rfl) rK14 (fun B => specsB_ok (k := []) (hS33_44 B) (fun p hp => by cases hp)) (fun _ _ => rfl) hraw (hk (lC dC46 gab rfl) (hk (q_call rfl p7 l8 e9) (hk (q_app q18 Nat.one_ne_zero) hn))), X25, hM20, nw_new (X15).next (fun _ _ => rfl) (Nat.le_trans (rowV_ok (p := fun r => r.length ≤ 400) (fun r hr => (hok.2.1 r hr).1) (by decide) v) (by decide)) nw22⟩
abbrev Q14 := FC (asP (as2 (pAdj 48) pI) fun x => okA x.1) (newR pInts) (fun x => rowV x.1.inn x.2)
theorem con14 {x : AdjM × Int} {lv : List Value} {M : Mem} (hM : MemOk M) (h : (asP (as2 (pAdj 48) pI) fun x : AdjM × Int => okA x.1) x lv M) : ∃ v M', Con Try.prog [] 14 Q14 lv M v M' := by
  refine FC.con h ?_
  obtain ⟨⟨g0, g1, rfl, k0, k1⟩, hok⟩ := h
  obtain ⟨ad, v⟩ := x
  obtain rfl := k1
  obtain ⟨ab, o, i_, t, s, rfl, gab, hout, hinn, hto, hset⟩ := k0
  obtain ⟨Eo, co, rfl⟩ := rowss_form hout
  obtain ⟨Ei, ci, rfl⟩ := rowss_form hinn
  obtain ⟨at_, ct, rfl⟩ := GRowsAt.form hto
  obtain ⟨as_, cs_, rfl⟩ := GRowsAt.form hset
  obtain ⟨v', M', h1, h2, _, h3⟩ := w33 ab Eo Ei co ci at_ ct as_ cs_ ad v hM gab hout hinn hto hset hok
  exact ⟨v', M', h1, h2, h3⟩
end Go.Proofs.Ytipnhelkganmdaa

set_option linter.unusedVariables false
set_option linter.unusedSimpArgs false
open Go Go.Am Go.Proofs
namespace Go.Proofs.Ytipnhelkganmdaa
set_option maxRecDepth 100000
set_option linter.unusedVariables false
set_option linter.unusedSimpArgs false
theorem r43_raw (ab bb o m c i sb so k cs_ : Nat) (s x z : Int) (vo vi vt : Value) (M : Mem)  : oR Try.prog [] 51 Try.f33 (q33.loopAt 0) [(0, (pt ab 0)), (5, (i64 s)), (8, (sli bb o m c)), (9, (i64 (((m : Nat) : Int)))), (10, (i64 (((i : Nat) : Int))))] M [ttT 2, ttT 4, ttL 6 (i64 x), ttL 18 (sli sb so k cs_), ttT 22, ttL 24 (i64 z)] [0, 5, 8, 9, 10] = some (.normal, [some (pt ab 0), some (i64 (orI s z)), some (sli bb o m c), some (i64 (((m : Nat) : Int))), some (i64 (IntKind.wrap .i64 ((((i : Nat) : Int)) + (1 : Int))))], M, [qT (decide ((((i : Nat) : Int)) < (((m : Nat) : Int)))), .q (.inb (((i : Nat) : Int)) m) (ansB true), qL 3 bb (o + (((i : Nat) : Int) : Int).toNat * 1) M (i64 x), qL 22 ab 3 M (sli sb so k cs_), .q (.inb x k) (ansB true), qL 3 sb (so + (x : Int).toNat * 1) M (i64 z)]) := by kernel_rfl
theorem r43 (ab bb o m c i sb so k cs_ : Nat) (s x z : Int) (vo vi vt : Value) {M : Mem} {M0 : Mem} (X0 : Ext M0 M) (gab : M.get ab = some ⟨[vo, vi, vt, sli sb so k cs_], 48, 4, 0, true⟩) (cc0 : (decide ((((i : Nat) : Int)) < (((m : Nat) : Int)))) = true) (hld0 : aload Try.prog 3 ⟨bb, o + (((i : Nat) : Int) : Int).toNat * 1, none⟩ M0 = some (i64 x)) (hi1 : 0 ≤ (x : Int) ∧ (x : Int) < k) (hld2 : aload Try.prog 3 ⟨sb, so + (x : Int).toNat * 1, none⟩ M0 = some (i64 z)) : ∃ T1, Rd Try.prog [] (q33.loopAt 0) Try.f33.ntmps (fr [(0, (pt ab 0)), (5, (i64 s)), (8, (sli bb o m c)), (9, (i64 (((m : Nat) : Int)))), (10, (i64 (((i : Nat) : Int))))]) M .normal T1 M ∧ [0, 5, 8, 9, 10].map T1.get = [some (pt ab 0), some (i64 (orI s z)), some (sli bb o m c), some (i64 (((m : Nat) : Int))), some (i64 (IntKind.wrap .i64 ((((i : Nat) : Int)) + (1 : Int))))] := by
  have hraw := r43_raw ab bb o m c i sb so k cs_ s x z vo vi vt M  
  obtain ⟨T1, h1, h2⟩ := Rd.told noNumP mixedP (specs_none Try.prog) (fun _ _ => rfl) hraw (hk (bT cc0) (hk (q_inb (by omega) (by simp at cc0; omega)) (hk (q_ld (aload_ext X0 hld0)) (hk (lC dC22 gab rfl) (hk (q_inb hi1.1 hi1.2) (hk (q_ld (aload_ext X0 hld2)) hn))))))
  exact ⟨T1, h1, h2⟩
theorem r43x_raw (ab : Nat) (a : Option Addr) (m c i : Nat) (s : Int) (M : Mem)  : oR Try.prog [] 51 Try.f33 (q33.loopAt 0) [(0, (pt ab 0)), (5, (i64 s)), (8, (.slice a m c)), (9, (i64 (((m : Nat) : Int)))), (10, (i64 (((i : Nat) : Int))))] M [ttF 2] [5] = some ((.exit 0), [some (i64 s)], M, [qF (decide ((((i : Nat) : Int)) < (((m : Nat) : Int))))]) := by kernel_rfl
theorem r43x (ab : Nat) (a : Option Addr) (m c i : Nat) (s : Int) {M : Mem} (cc0 : (decide ((((i : Nat) : Int)) < (((m : Nat) : Int)))) = false) : ∃ T1, Rd Try.prog [] (q33.loopAt 0) Try.f33.ntmps (fr [(0, (pt ab 0)), (5, (i64 s)), (8, (.slice a m c)), (9, (i64 (((m : Nat) : Int)))), (10, (i64 (((i : Nat) : Int))))]) M (.exit 0) T1 M ∧ [5].map T1.get = [some (i64 s)] := by
  have hraw := r43x_raw ab a m c i s M  
  obtain ⟨T1, h1, h2⟩ := Rd.told noNumP mixedP (specs_none Try.prog) (fun _ _ => rfl) hraw (hk (bF cc0) hn)
  exact ⟨T1, h1, h2⟩
theorem loop43 {ab : Nat} {a as_ : Option Addr} {c cs_ : Nat} {es set : List Int} {vo vi vt : Value} {M : Mem} (hM : MemOk M) (hs : pInts es (.slice a es.length c) M) (gab : M.get ab = some ⟨[vo, vi, vt, .slice as_ set.length cs_], 48, 4, 0, true⟩) (hset : pInts set (.slice as_ set.length cs_) M) (hb : ∀ j ∈ es, 0 ≤ j ∧ j < (set.length : Int)) :
    ∃ M', LoopR Try.prog [] (q33.loopAt 0) Try.f33.ntmps (fr [(0, pt ab 0), (5, i64 0), (8, .slice a es.length c), (9, i64 ((es.length : Nat) : Int)), (10, i64 ((0 : Nat) : Int))]) M (.exit 0) (fr [(5, i64 (unionI set es))]) M' ∧ Ext M M' ∧ MemOk M' := by
  have hlen := hs.len
  obtain ⟨_, M', h1, h2, h3, h4⟩ := LoopR.for (P := Try.prog) (GL := []) (b := q33.loopAt 0) (nt := Try.f33.ntmps) (id := 0) (σ := Unit) (n := es.length) (Inv := fun i _ M1 => Ext M M1 ∧ MemOk M1 ∧ True)
    (F := fun i _ => [(0, pt ab 0), (5, i64 (unionI set (es.take i))), (8, .slice a es.length c), (9, i64 ((es.length : Nat) : Int)), (10, i64 ((i : Nat) : Int))])
    (O := fun _ => [(5, i64 (unionI set (es.take es.length)))])
    (by
      rintro i _ M1 hi ⟨X1, hM1, _⟩
      obtain ⟨bb, o, rfl, _⟩ := form_pos hs (by omega)
      have ht : es[i]? = some es[i] := List.getElem?_eq_getElem hi
      have hbi := hb _ (List.getElem_mem hi)
      obtain ⟨sb, so, rfl, _⟩ := form_pos hset (by omega)
      have hz : set[(es[i]).toNat]? = some set[(es[i]).toNat] := List.getElem?_eq_getElem (by omega)
      obtain ⟨T1, h1, h2⟩ := r43 ab bb o es.length c i sb so set.length cs_ (unionI set (es.take i)) es[i] set[(es[i]).toNat] vo vi vt (M := M1) X1 (X1.old gab) (decide_eq_true (by omega)) (ld_one (P := Try.prog) (ty := 3) hs ht rfl dC3) hbi (ld_one (P := Try.prog) (ty := 3) hset hz rfl dC3)
      rw [wrap_succ (by omega)] at h2
      refine ⟨(), T1, M1, h1, ?_, X1, hM1, trivial⟩
      rw [List.take_succ_eq_append_getElem hi]
      unfold unionI
      rw [List.foldl_append]
      simp only [List.foldl_cons, List.foldl_nil, hz, Option.getD_some]
      exact h2)
    (by
      rintro _ M1 ⟨X1, hM1, _⟩
      exact r43x ab a es.length c es.length _ (M := M1) (decide_eq_false (by omega)))
    es.length 0 (by omega) (s := ()) (M := M) ⟨Ext.refl M, hM, trivial⟩
  rw [List.take_length] at h1
  exact ⟨M', h1, h2, h3⟩
theorem rK33 : Try.f33.results = #[.tmp 4] := by kernel_rfl
theorem w43_raw (ab Eo Ei : Nat) (co ci : Nat) (at_ : Option Addr) (ct : Nat) (as_ : Option Addr) (cs_ : Nat) (ad : AdjM) (ae : Option Addr) (ce : Nat) (es : List Int) (M : Mem) (M1 : Mem) : oT Try.prog [0] 60 Try.f33 q33 [(pt ab 0), (.slice ae es.length ce)] M [ttT 7, .blk 10 [0, 5, 8, 9, 10] .normal (fr [(5, (i64 (unionI ad.set es)))]) M1] 4 = some (.ret, some (i64 (unionI ad.set es)), M1, [.ln ae es.length ce, .blk 0 (.loop (q33.loopAt 0)) Try.f33.ntmps [0, 5, 8, 9, 10] [some (pt ab 0), some (i64 0), some (.slice ae es.length ce), some (i64 (((es.length : Nat) : Int))), some (i64 0)] M .normal (fr [(5, (i64 (unionI ad.set es)))]) M1]) := by kernel_rfl
theorem w43 (ab Eo Ei : Nat) (co ci : Nat) (at_ : Option Addr) (ct : Nat) (as_ : Option Addr) (cs_ : Nat) (ad : AdjM) (ae : Option Addr) (ce : Nat) (es : List Int) {M : Mem} (hM : MemOk M) (gab : M.get ab = some ⟨[sli Eo 0 ad.out.length co, sli Ei 0 ad.inn.length ci, .slice at_ ad.to.length ct, .slice as_ ad.set.length cs_], 48, 4, 0, true⟩) (hout : pRowss ad.out (sli Eo 0 ad.out.length co) M) (hinn : pRowss ad.inn (sli Ei 0 ad.inn.length ci) M) (hto : pInts ad.to (.slice at_ ad.to.length ct) M) (hset : pInts ad.set (.slice as_ ad.set.length cs_) M) (hok : okA ad) (hes : pInts es (.slice ae es.length ce) M) (hb : ∀ j ∈ es, 0 ≤ j ∧ j < (ad.set.length : Int)) : ∃ v_ M', Ev Try.prog [] 33 [(pt ab 0), (.slice ae es.length ce)] M v_ M' ∧ Ext M M' ∧ MemOk M' ∧ v_ = i64 (unionI ad.set es) := by
  obtain ⟨M1, hL2, E3, hM4⟩ := loop43 hM (AP.Ext (R := pInts) hes (Ext.refl M)) gab (AP.Ext (R := pInts) hset (Ext.refl M)) hb
  have nx5 := E3.next
  have g6 := E3.old gab
  have X7 := (Ext.refl M).trans E3
  have hraw := w43_raw ab Eo Ei co ci at_ ct as_ cs_ ad ae ce es M  M1
  exact ⟨(i64 (unionI ad.set es)), M1, Ev.told_tmp noNumP mixedP Try.func33 q33_ok (by kernel_rfl) rK33 (fun B => specsB_ok (l := []) (fun p hp => by cases hp) (k := [(0, bone (.loop (q33.loopAt 0)) Try.f33.ntmps [0, 5, 8, 9, 10] [some (pt ab 0), some (i64 0), some (.slice ae es.length ce), some (i64 (((es.length : Nat) : Int))), some (i64 0)] M .normal (fr [(5, (i64 (unionI ad.set es)))]) M1)]) (fun p hp => by simp only [List.mem_cons, List.not_mem_nil, or_false] at hp; rcases hp with rfl <;> first | exact BlkOk.loop noNumP mixedP hL2)) (fun _ h => blksF_one h) hraw (hk (lN hes.ln) (hk (q_blk rfl) hn)), X7, hM4, rfl⟩
abbrev Q33 := FC (asP (as2 (pAdj 48) pInts) fun x => okA x.1 ∧ ∀ j ∈ x.2, 0 ≤ j ∧ j < (x.1.set.length : Int)) (plain pI) (fun x => unionI x.1.set x.2)
theorem con33 {x : AdjM × List Int} {lv : List Value} {M : Mem} (hM : MemOk M) (h : (asP (as2 (pAdj 48) pInts) fun x : AdjM × List Int => okA x.1 ∧ ∀ j ∈ x.2, 0 ≤ j ∧ j < (x.1.set.length : Int)) x lv M) : ∃ v M', Con Try.prog [] 33 Q33 lv M v M' := by
  refine FC.con h ?_
  obtain ⟨⟨g0, g1, rfl, k0, k1⟩, hok, hb⟩ := h
  obtain ⟨ad, es⟩ := x
  obtain ⟨ae, ce, rfl⟩ := GRowsAt.form k1
  obtain ⟨ab, o, i_, t, s, rfl, gab, hout, hinn, hto, hset⟩ := k0
  obtain ⟨Eo, co, rfl⟩ := rowss_form hout
  obtain ⟨Ei, ci, rfl⟩ := rowss_form hinn
  obtain ⟨at_, ct, rfl⟩ := GRowsAt.form hto
  obtain ⟨as_, cs_, rfl⟩ := GRowsAt.form hset
  obtain ⟨v', M', h1, h2, _, h3⟩ := w43 ab Eo Ei co ci at_ ct as_ cs_ ad ae ce es hM gab hout hinn hto hset hok k1 hb
  exact ⟨v', M', h1, h2, h3⟩
theorem rK18 : Try.f18.results = #[.tmp 4] := by kernel_rfl
theorem hS29_43_44 (B : Bd) : ∀ p ∈ ([(33, pick (Con Try.prog [] 33 Q33)), (31, pick (Con Try.prog [] 31 Q31))] : List (FuncId × (List Value → Mem → Option (Value × Mem)))), SpecOk Try.prog [] B p.1 p.2 := (fun p hp => by simp only [List.mem_cons, List.not_mem_nil, or_false] at hp; rcases hp with rfl | rfl <;> first | exact Con.ok _)
theorem w29_raw (ab Eo Ei : Nat) (co ci : Nat) (at_ : Option Addr) (ct : Nat) (as_ : Option Addr) (cs_ : Nat) (ad : AdjM) (v : Int) (M : Mem) (a7 : Option Addr) (c8 : Nat) (M12 : Mem) (M25 : Mem) (a37 : Option Addr) (c38 : Nat) (M42 : Mem) (M56 : Mem) : oT Try.prog [] 51 Try.f18 q18 [(pt ab 0), (i64 v)] M [ttL 11 (sli Eo 0 ad.out.length co), ttV 15 (.slice a7 (rowV ad.out v).length c8) M12, ttV 17 (i64 (unionI ad.set (rowV ad.out v))) M25, ttL 27 (sli Ei 0 ad.inn.length ci), ttV 31 (.slice a37 (rowV ad.inn v).length c38) M42, ttV 33 (i64 (unionI ad.set (rowV ad.inn v))) M56] 4 = some (.ret, some (i64 (orI (unionI ad.set (rowV ad.out v)) (unionI ad.set (rowV ad.inn v)))), (Mem.mk M56.blks M56.next M.hide (M56.log ++ M.log)), [qL 46 ab 0 (Mem.mk M.blks M.next M.hide []) (sli Eo 0 ad.out.length co), qC 31 [(sli Eo 0 ad.out.length co), (i64 v)] (Mem.mk M.blks M.next M.hide []) (.slice a7 (rowV ad.out v).length c8) M12, qC 33 [(pt ab 0), (.slice a7 (rowV ad.out v).length c8)] (Mem.mk M12.blks M12.next M.hide M12.log) (i64 (unionI ad.set (rowV ad.out v))) M25, qL 46 ab 1 (Mem.mk M25.blks M25.next (hides 3584 [⟨7, 1, M12.next, M25.next⟩, ⟨6, 1, M.next, M12.next⟩, ⟨4, 1, M.next, M.next⟩] ++ M.hide) M25.log) (sli Ei 0 ad.inn.length ci), qT (Nat.blt ab M.next), qC 31 [(sli Ei 0 ad.inn.length ci), (i64 v)] (Mem.mk M25.blks M25.next M.hide M25.log) (.slice a37 (rowV ad.inn v).length c38) M42, qC 33 [(pt ab 0), (.slice a37 (rowV ad.inn v).length c38)] (Mem.mk M42.blks M42.next M.hide M42.log) (i64 (unionI ad.set (rowV ad.inn v))) M56, qT (apartN [ab] M56.log)]) := by kernel_rfl
theorem w29 (ab Eo Ei : Nat) (co ci : Nat) (at_ : Option Addr) (ct : Nat) (as_ : Option Addr) (cs_ : Nat) (ad : AdjM) (v : Int) {M : Mem} (hM : MemOk M) (gab : M.get ab = some ⟨[sli Eo 0 ad.out.length co, sli Ei 0 ad.inn.length ci, .slice at_ ad.to.length ct, .slice as_ ad.set.length cs_], 48, 4, 0, true⟩) (hout : pRowss ad.out (sli Eo 0 ad.out.length co) M) (hinn : pRowss ad.inn (sli Ei 0 ad.inn.length ci) M) (hto : pInts ad.to (.slice at_ ad.to.length ct) M) (hset : pInts ad.set (.slice as_ ad.set.length cs_) M) (hok : okA ad) (hadj : pAdj 48 ad (pt ab 0) M) : ∃ v_ M', Ev Try.prog [] 18 [(pt ab 0), (i64 v)] M v_ M' ∧ Ext M M' ∧ MemOk M' ∧ v_ = i64 (modesI ad v) := by
  obtain ⟨R1, eR2⟩ : ∃ m : Mem, m = Mem.mk M.blks M.next M.hide [] := ⟨_, rfl⟩
  have X3 : Ext (Mem.mk M.blks M.next M.hide []) R1 := by rw [eR2]; exact Ext.aside ((Ext.refl M))
  have lg4 : R1.log = [] := by rw [eR2]
  have nxR1 : R1.next = M.next := by rw [eR2]
  have hM5 : MemOk R1 := by rw [eR2]; exact MemOk.log hM
  have ltabM : ab < M.next := by have h := Mem.lt_of_get gab; exact h
  have g6 : R1.get ab = some ⟨[(sli Eo 0 ad.out.length co), (sli Ei 0 ad.inn.length ci), (.slice at_ ad.to.length ct), (.slice as_ ad.set.length cs_)], 48, 4, 0, true⟩ := by rw [eR2]; exact gab
  have ltabM12 := Mem.lt_of_get g6
  obtain ⟨w10, N11, M12, p13, l14, e15, E16, hM17, F18⟩ := call_fc (x := (ad.out, v)) hM5 con31 (⟨_, _, rfl, AP.Ext (R := pRowss) (AP.log (R := pRowss) hout) X3, rfl⟩)
  have nx19 := E16.next
  have g20 := E16.old g6
  have G9 : pInts (rowV ad.out v) w10 M12 := F18
  obtain ⟨a7, c8, ew10⟩ := GRowsAt.form G9
  subst ew10
  have lg21 : M12.log = [] := by rw [← e15]; exact lg4
  have X22 := X3.trans E16
  have ltabM25 := Mem.lt_of_get g20
  obtain ⟨w23, N24, M25, p26, l27, e28, E29, hM30, F31⟩ := call_fc (x := (ad, rowV ad.out v)) hM17 con33 (⟨⟨_, _, rfl, (AP.Ext (R := pAdj 48) (AP.log (R := pAdj 48) hadj) X22), G9⟩, hok, rowV_ok (p := fun r => ∀ j ∈ r, 0 ≤ j ∧ j < (ad.set.length : Int)) (fun r hr => (hok.1 r hr).2) (fun _ h => by cases h) v⟩)
  have nx32 := E29.next
  have F33 := AP.Ext (R := pInts) G9 E29
  have g34 := E29.old g20
  have ew23 : w23 = (i64 (unionI ad.set (rowV ad.out v))) := F31
  subst ew23
  have lg35 : M25.log = [] := by rw [← e28]; exact lg21
  have X36 := X22.trans E29
  have ltabM42 := Mem.lt_of_get g34
  obtain ⟨w40, N41, M42, p43, l44, e45, E46, hM47, F48⟩ := call_fc (x := (ad.inn, v)) hM30 con31 (⟨_, _, rfl, AP.Ext (R := pRowss) (AP.log (R := pRowss) hinn) X36, rfl⟩)
  have nx49 := E46.next
  have F50 := AP.Ext (R := pInts) F33 E46
  have g51 := E46.old g34
  have G39 : pInts (rowV ad.inn v) w40 M42 := F48
  obtain ⟨a37, c38, ew40⟩ := GRowsAt.form G39
  subst ew40
  have lg52 : M42.log = [] := by rw [← e45]; exact lg35
  have X53 := X36.trans E46
  have ltabM56 := Mem.lt_of_get g51
  obtain ⟨w54, N55, M56, p57, l58, e59, E60, hM61, F62⟩ := call_fc (x := (ad, rowV ad.inn v)) hM47 con33 (⟨⟨_, _, rfl, (AP.Ext (R := pAdj 48) (AP.log (R := pAdj 48) hadj) X53), G39⟩, hok, rowV_ok (p := fun r => ∀ j ∈ r, 0 ≤ j ∧ j < (ad.set.length : Int)) (fun r hr => (hok.2.1 r hr).2) (fun _ h => by cases h) v⟩)
  have nx63 := E60.next
  have F64 := AP.Ext (R := pInts) F50 E60
  have F65 := AP.Ext (R := pInts) G39 E60
  have g66 := E60.old g51
  have ew54 : w54 = (i64 (unionI ad.set (rowV ad.inn v))) := F62
  subst ew54
  have lg67 : M56.log = [] := by rw [← e59]; exact lg52
  have X68 := X53.trans E60
  obtain ⟨M69, ef70⟩ : ∃ m : Mem, m = (Mem.mk M56.blks M56.next M56.hide (M56.log ++ M.log)) := ⟨_, rfl⟩
  have X71 : Ext M M69 := by rw [ef70]; exact Ext.join ((Ext.refl M)) (X68)
  have hM72 : MemOk M69 := by rw [ef70]; exact hM61
  have g73 : M69.get ab = some ⟨[(sli Eo 0 ad.out.length co), (sli Ei 0 ad.inn.length ci), (.slice at_ ad.to.length ct), (.slice as_ ad.set.length cs_)], 48, 4, 0, true⟩ := by rw [ef70]; exact g66
  have F74 := AP.ext (R := pInts) (M' := M69) (fun id b h => by rw [ef70]; exact h) F64
  have F75 := AP.ext (R := pInts) (M' := M69) (fun id b h => by rw [ef70]; exact h) F65
  have hraw := w29_raw ab Eo Ei co ci at_ ct as_ cs_ ad v M  a7 c8 M12 M25 a37 c38 M42 M56
  have rw0 : Mem.mk M.blks M.next M.hide [] = R1 := eR2.symm
  have rw1 : Mem.mk M12.blks M12.next M.hide M12.log = M12 := by rw [(show M.hide = M12.hide from (((Ext.refl M)).hide.trans (X22).hide.symm))]
  have rw2 : Mem.mk M25.blks M25.next M.hide M25.log = M25 := by rw [(show M.hide = M25.hide from (((Ext.refl M)).hide.trans (X36).hide.symm))]
  have rw3 : Mem.mk M25.blks M25.next (hides 3584 [⟨7, 1, M12.next, M25.next⟩, ⟨6, 1, M.next, M12.next⟩, ⟨4, 1, M.next, M.next⟩] ++ M.hide) M25.log = hidx (hides 3584 [⟨7, 1, M12.next, M25.next⟩, ⟨6, 1, M.next, M12.next⟩, ⟨4, 1, M.next, M.next⟩]) M25 := by rw [(show M.hide = M25.hide from (((Ext.refl M)).hide.trans (X36).hide.symm))]; rfl
  have rw4 : Mem.mk M42.blks M42.next M.hide M42.log = M42 := by rw [(show M.hide = M42.hide from (((Ext.refl M)).hide.trans (X53).hide.symm))]
  have rw5 : Mem.mk M56.blks M56.next M.hide M56.log = M56 := by rw [(show M.hide = M56.hide from (((Ext.refl M)).hide.trans (X68).hide.symm))]
  have rw6 : (Mem.mk M56.blks M56.next M.hide (M56.log ++ M.log)) = (Mem.mk M56.blks M56.next M56.hide (M56.log ++ M.log)) := by rw [(show M.hide = M56.hide from (((Ext.refl M)).hide.trans (X68).hide.symm))]
  have rw7 : (Mem.mk M56.blks M56.next M56.hide (M56.log ++ M.log)) = M69 := ef70.symm
  try rw [rw0] at hraw
  try rw [rw1] at hraw
  try rw [rw2] at hraw
  try rw [rw3] at hraw
  try rw [rw4] at hraw
  try rw [rw5] at hraw
  try rw [rw6] at hraw
  try rw [rw7] at hraw
  exact ⟨(i64 (orI (unionI ad.set (rowV ad.out v)) (unionI ad.set (rowV ad.inn v)))), M69, Ev.told_tmp noNumP mixedP Try.func18 q18_ok (by kernel_rfl) rK18 (fun B => specsB_ok (k := []) (hS29_43_44 B) (fun p hp => by cases hp)) (fun _ _ => rfl) hraw (hk (lC dC46 g6 rfl) (hk (q_call rfl p13 l14 e15) (hk (q_call rfl p26 l27 e28) (hk (lC dC46 (hidx_get.2 ⟨hides_low (by simp; omega), g34⟩) rfl) (hk (q_lt ltabM) (hk (q_call rfl p43 l44 e45) (hk (q_call rfl p57 l58 e59) (hk (q_apart (by rw [lg67]; simp <;> omega)) hn)))))))), X71, hM72, rfl⟩
abbrev Q18 := FC (asP (as2 (pAdj 48) pI) fun x => okA x.1) (plain pI) (fun x => modesI x.1 x.2)
theorem con18 {x : AdjM × Int} {lv : List Value} {M : Mem} (hM : MemOk M) (h : (asP (as2 (pAdj 48) pI) fun x : AdjM × Int => okA x.1) x lv M) : ∃ v M', Con Try.prog [] 18 Q18 lv M v M' := by
  refine FC.con h ?_
  obtain ⟨⟨g0, g1, rfl, k0, k1⟩, hok⟩ := h
  obtain ⟨ad, v⟩ := x
  obtain rfl := k1
  have hadj := k0
  obtain ⟨ab, o, i_, t, s, rfl, gab, hout, hinn, hto, hset⟩ := k0
  obtain ⟨Eo, co, rfl⟩ := rowss_form hout
  obtain ⟨Ei, ci, rfl⟩ := rowss_form hinn
  obtain ⟨at_, ct, rfl⟩ := GRowsAt.form hto
  obtain ⟨as_, cs_, rfl⟩ := GRowsAt.form hset
  obtain ⟨v', M', h1, h2, _, h3⟩ := w29 ab Eo Ei co ci at_ ct as_ cs_ ad v hM gab hout hinn hto hset hok hadj
  exact ⟨v', M', h1, h2, h3⟩
end Go.Proofs.Ytipnhelkganmdaa
