/-
  Package adj: each of its laws for every argument; no conditions. The last text states which.
-/
import Derived.Test.YtipnhelkganmdaaUP3
import Derived.Test.YtipnhelkganmdaaGAmBk
open Go Go.Am Go.Proofs
namespace Go.Proofs.Ytipnhelkganmdaa
set_option maxRecDepth 100000
set_option linter.unusedVariables false
set_option linter.unusedSimpArgs false
theorem dC22 : (Try.prog.underlying 22).map isAggD = some false := by kernel_rfl
theorem dS22 : (Try.prog.info? 22).map (·.size) = some 1 := by kernel_rfl
theorem rA45_raw (C n bb o m c i : Nat) (x z : Int) (cc : List Value) (M : Mem) (M1 : Mem) : oR Try.prog [] 51 Try.f36 (q36.loopAt 0) [(0, (i64 (((n : Nat) : Int)))), (1, (sli bb o m c)), (5, (sli C 0 n (n + 1))), (15, (sli bb o m c)), (16, (i64 (((m : Nat) : Int)))), (17, (i64 (((i : Nat) : Int))))] M [ttT 2, ttT 4, ttL 6 (i64 x), ttT 14, ttL 16 (i64 z), ttT 20, ttS 22 M1] [0, 1, 5, 15, 16, 17] = some (.normal, [some (i64 (((n : Nat) : Int))), some (sli bb o m c), some (sli C 0 n (n + 1)), some (sli bb o m c), some (i64 (((m : Nat) : Int))), some (i64 (IntKind.wrap .i64 ((((i : Nat) : Int)) + (1 : Int))))], M1, [qT (decide ((((i : Nat) : Int)) < (((m : Nat) : Int)))), .q (.inb (((i : Nat) : Int)) m) (ansB true), qL 3 bb (o + (((i : Nat) : Int) : Int).toNat * 1) M (i64 x), .q (.inb x n) (ansB true), qL 3 C (0 + (x : Int).toNat * 1) M (i64 z), .q (.inb x n) (ansB true), qS 3 C (0 + (x : Int).toNat * 1) (i64 (IntKind.wrap .i64 (z + (1 : Int)))) M M1]) := by kernel_rfl
theorem rA45 (C n bb o m c i : Nat) (x z : Int) (cc : List Value) {M M0 : Mem} (hM : MemOk M) (X0 : Ext M0 M) (hC : M0.next ≤ C) (gC : M.get C = some ⟨cc, 3, 1, 0, true⟩) (cc0 : (decide ((((i : Nat) : Int)) < (((m : Nat) : Int)))) = true) (hld0 : aload Try.prog 3 ⟨bb, o + (((i : Nat) : Int) : Int).toNat * 1, none⟩ M0 = some (i64 x)) (hi1 : 0 ≤ (x : Int) ∧ (x : Int) < n) (hc2 : (cc)[0 + (x : Int).toNat * 1]? = some (i64 z)) (hof3 : 0 + (x : Int).toNat * 1 + 1 ≤ (cc).length) : ∃ T1 M', Rd Try.prog [] (q36.loopAt 0) Try.f36.ntmps (fr [(0, (i64 (((n : Nat) : Int)))), (1, (sli bb o m c)), (5, (sli C 0 n (n + 1))), (15, (sli bb o m c)), (16, (i64 (((m : Nat) : Int)))), (17, (i64 (((i : Nat) : Int))))]) M .normal T1 M' ∧ [0, 1, 5, 15, 16, 17].map T1.get = [some (i64 (((n : Nat) : Int))), some (sli bb o m c), some (sli C 0 n (n + 1)), some (sli bb o m c), some (i64 (((m : Nat) : Int))), some (i64 (IntKind.wrap .i64 ((((i : Nat) : Int)) + (1 : Int))))] ∧ Ext M0 M' ∧ MemOk M' ∧ M'.get C = some ⟨(splice cc (0 + (x : Int).toNat * 1) [(i64 (IntKind.wrap .i64 (z + (1 : Int))))]), 3, 1, 0, true⟩ ∧ ∀ id k, M.get id = some k → id ≠ C → M'.get id = some k := by
  obtain ⟨M1, q2, g3, kp4, X5, hM6, nx7⟩ := store_t (o := 0 + (x : Int).toNat * 1) (v := (i64 (IntKind.wrap .i64 (z + (1 : Int))))) (new := splice cc (0 + (x : Int).toNat * 1) [(i64 (IntKind.wrap .i64 (z + (1 : Int))))]) X0 hC hM dS3 gC rfl rfl (Nat.zero_le _) hof3 rfl
  replace g3 : M1.get C = some ⟨splice cc (0 + (x : Int).toNat * 1) [(i64 (IntKind.wrap .i64 (z + (1 : Int))))], 3, 1, 0, true⟩ := g3
  have hraw := rA45_raw C n bb o m c i x z cc M  M1
  have hkp : ∀ id k, M.get id = some k → id ≠ C → M1.get id = some k := fun id k g h_C => by
    have g0 := Mem.lt_of_get g
    have g := ((fun id h _ => kp4 id h) id h_C (Mem.lt_of_get g)).trans g
    exact g
  obtain ⟨T1, h1, h2⟩ := Rd.told noNumP mixedP (specs_none Try.prog) (fun _ _ => rfl) hraw (hk (bT cc0) (hk (q_inb (by omega) (by simp at cc0; omega)) (hk (q_ld (aload_ext X0 hld0)) (hk (q_inb hi1.1 hi1.2) (hk (q_ld (aload_cell (a := ⟨C, 0 + (x : Int).toNat * 1, none⟩) dC3 gC hc2)) (hk (q_inb hi1.1 hi1.2) (hk (q_st q2) hn)))))))
  exact ⟨T1, M1, h1, h2, X5, hM6, g3, hkp⟩
theorem rA45x_raw (C n : Nat) (a : Option Addr) (m c i : Nat) (M : Mem)  : oR Try.prog [] 51 Try.f36 (q36.loopAt 0) [(0, (i64 (((n : Nat) : Int)))), (1, (.slice a m c)), (5, (sli C 0 n (n + 1))), (15, (.slice a m c)), (16, (i64 (((m : Nat) : Int)))), (17, (i64 (((i : Nat) : Int))))] M [ttF 2] [0, 1, 5] = some ((.exit 0), [some (i64 (((n : Nat) : Int))), some (.slice a m c), some (sli C 0 n (n + 1))], M, [qF (decide ((((i : Nat) : Int)) < (((m : Nat) : Int))))]) := by kernel_rfl
theorem rA45x (C n : Nat) (a : Option Addr) (m c i : Nat) {M : Mem} (cc0 : (decide ((((i : Nat) : Int)) < (((m : Nat) : Int)))) = false) : ∃ T1, Rd Try.prog [] (q36.loopAt 0) Try.f36.ntmps (fr [(0, (i64 (((n : Nat) : Int)))), (1, (.slice a m c)), (5, (sli C 0 n (n + 1))), (15, (.slice a m c)), (16, (i64 (((m : Nat) : Int)))), (17, (i64 (((i : Nat) : Int))))]) M (.exit 0) T1 M ∧ [0, 1, 5].map T1.get = [some (i64 (((n : Nat) : Int))), some (.slice a m c), some (sli C 0 n (n + 1))] := by
  have hraw := rA45x_raw C n a m c i M  
  obtain ⟨T1, h1, h2⟩ := Rd.told noNumP mixedP (specs_none Try.prog) (fun _ _ => rfl) hraw (hk (bF cc0) hn)
  exact ⟨T1, h1, h2⟩
theorem rB45_raw (C D E n k q z i : Nat) (cc cd ce : List Value) (M : Mem) (M1 : Mem) : oR Try.prog [] 51 Try.f36 (q36.loopAt 2) [(8, (sli D 0 k (k + 1))), (9, (sli E 0 n (n + 1))), (10, (i64 (((q : Nat) : Int)))), (33, (sli C 0 n (n + 1))), (34, (i64 (((n : Nat) : Int)))), (35, (i64 (((i : Nat) : Int))))] M [ttT 2, ttT 6, ttL 8 (i64 (((z : Nat) : Int))), ttL 30 (sli D (0 + q) 0 (((q + z)) - q + 1)), ttT 32, ttS 34 M1] [8, 9, 10, 33, 34, 35] = some (.normal, [some (sli D 0 k (k + 1)), some (sli E 0 n (n + 1)), some (i64 (IntKind.wrap .i64 ((((q : Nat) : Int)) + (((z : Nat) : Int))))), some (sli C 0 n (n + 1)), some (i64 (((n : Nat) : Int))), some (i64 (IntKind.wrap .i64 ((((i : Nat) : Int)) + (1 : Int))))], M1, [qT (decide ((((i : Nat) : Int)) < (((n : Nat) : Int)))), .q (.inb (((i : Nat) : Int)) n) (ansB true), qL 3 C (0 + (((i : Nat) : Int) : Int).toNat * 1) M (i64 (((z : Nat) : Int))), .q (.slice 22 (sli D 0 k (k + 1)) (some (i64 (((q : Nat) : Int)))) (some (i64 (((q : Nat) : Int)))) (some (i64 (IntKind.wrap .i64 ((((q : Nat) : Int)) + (((z : Nat) : Int)))))) M) (1, .val (sli D (0 + q) 0 (((q + z)) - q + 1)), noMem), .q (.inb (((i : Nat) : Int)) n) (ansB true), qS 22 E (0 + (((i : Nat) : Int) : Int).toNat * 1) (sli D (0 + q) 0 (((q + z)) - q + 1)) M M1]) := by kernel_rfl
theorem rB45 (C D E n k q z i : Nat) (cc cd ce : List Value) {M M0 : Mem} (hM : MemOk M) (X0 : Ext M0 M) (hE : M0.next ≤ E) (gC : M.get C = some ⟨cc, 3, 1, 0, true⟩) (gD : M.get D = some ⟨cd, 3, 1, 0, true⟩) (gE : M.get E = some ⟨ce, 22, 1, 0, true⟩) (dCE : C ≠ E) (dDE : D ≠ E) (cc0 : (decide ((((i : Nat) : Int)) < (((n : Nat) : Int)))) = true) (hc0 : (cc)[0 + (((i : Nat) : Int) : Int).toNat * 1]? = some (i64 (((z : Nat) : Int)))) (hs1 : q ≤ ((q + z)) ∧ ((q + z)) ≤ k) (he2 : (IntKind.wrap .i64 ((((q : Nat) : Int)) + (((z : Nat) : Int)))) = ((((q + z)) : Nat) : Int)) (hof3 : 0 + (((i : Nat) : Int) : Int).toNat * 1 + 1 ≤ (ce).length) : ∃ T1 M', Rd Try.prog [] (q36.loopAt 2) Try.f36.ntmps (fr [(8, (sli D 0 k (k + 1))), (9, (sli E 0 n (n + 1))), (10, (i64 (((q : Nat) : Int)))), (33, (sli C 0 n (n + 1))), (34, (i64 (((n : Nat) : Int)))), (35, (i64 (((i : Nat) : Int))))]) M .normal T1 M' ∧ [8, 9, 10, 33, 34, 35].map T1.get = [some (sli D 0 k (k + 1)), some (sli E 0 n (n + 1)), some (i64 (IntKind.wrap .i64 ((((q : Nat) : Int)) + (((z : Nat) : Int))))), some (sli C 0 n (n + 1)), some (i64 (((n : Nat) : Int))), some (i64 (IntKind.wrap .i64 ((((i : Nat) : Int)) + (1 : Int))))] ∧ Ext M0 M' ∧ MemOk M' ∧ M'.get C = some ⟨cc, 3, 1, 0, true⟩ ∧ M'.get D = some ⟨cd, 3, 1, 0, true⟩ ∧ M'.get E = some ⟨(splice ce (0 + (((i : Nat) : Int) : Int).toNat * 1) [(sli D (0 + q) 0 (((q + z)) - q + 1))]), 22, 1, 0, true⟩ ∧ ∀ id k, M.get id = some k → id ≠ C → id ≠ D → id ≠ E → M'.get id = some k := by
  obtain ⟨M1, q2, g3, kp4, X5, hM6, nx7⟩ := store_t (o := 0 + (((i : Nat) : Int) : Int).toNat * 1) (v := (sli D (0 + q) 0 (((q + z)) - q + 1))) (new := splice ce (0 + (((i : Nat) : Int) : Int).toNat * 1) [(sli D (0 + q) 0 (((q + z)) - q + 1))]) X0 hE hM dS22 gE rfl rfl (Nat.zero_le _) hof3 rfl
  replace g3 : M1.get E = some ⟨splice ce (0 + (((i : Nat) : Int) : Int).toNat * 1) [(sli D (0 + q) 0 (((q + z)) - q + 1))], 22, 1, 0, true⟩ := g3
  have g8 := (kp4 _ dCE).trans gC
  have g9 := (kp4 _ dDE).trans gD
  have hraw := rB45_raw C D E n k q z i cc cd ce M  M1
  have hkp : ∀ id k, M.get id = some k → id ≠ C → id ≠ D → id ≠ E → M1.get id = some k := fun id k g h_C h_D h_E => by
    have g0 := Mem.lt_of_get g
    have g := ((fun id h _ => kp4 id h) id h_E (Mem.lt_of_get g)).trans g
    exact g
  obtain ⟨T1, h1, h2⟩ := Rd.told noNumP mixedP (specs_none Try.prog) (fun _ _ => rfl) hraw (hk (bT cc0) (hk (q_inb (by omega) (by simp at cc0; omega)) (hk (q_ld (aload_cell (a := ⟨C, 0 + (((i : Nat) : Int) : Int).toNat * 1, none⟩) dC3 gC hc0)) (hk (⟨_, rfl, (by rw [he2]; exact slice3_t (by kernel_rfl) (elem := 3) (by kernel_rfl) gD rfl hs1.1 hs1.2)⟩) (hk (q_inb (by omega) (by simp at cc0; omega)) (hk (q_st q2) hn))))))
  exact ⟨T1, M1, h1, h2, X5, hM6, g8, g9, g3, hkp⟩
theorem rB45x_raw (C D E n k q i : Nat) (M : Mem)  : oR Try.prog [] 51 Try.f36 (q36.loopAt 2) [(8, (sli D 0 k (k + 1))), (9, (sli E 0 n (n + 1))), (10, (i64 (((q : Nat) : Int)))), (33, (sli C 0 n (n + 1))), (34, (i64 (((n : Nat) : Int)))), (35, (i64 (((i : Nat) : Int))))] M [ttF 2] [9] = some ((.exit 2), [some (sli E 0 n (n + 1))], M, [qF (decide ((((i : Nat) : Int)) < (((n : Nat) : Int))))]) := by kernel_rfl
theorem rB45x (C D E n k q i : Nat) {M : Mem} (cc0 : (decide ((((i : Nat) : Int)) < (((n : Nat) : Int)))) = false) : ∃ T1, Rd Try.prog [] (q36.loopAt 2) Try.f36.ntmps (fr [(8, (sli D 0 k (k + 1))), (9, (sli E 0 n (n + 1))), (10, (i64 (((q : Nat) : Int)))), (33, (sli C 0 n (n + 1))), (34, (i64 (((n : Nat) : Int)))), (35, (i64 (((i : Nat) : Int))))]) M (.exit 2) T1 M ∧ [9].map T1.get = [some (sli E 0 n (n + 1))] := by
  have hraw := rB45x_raw C D E n k q i M  
  obtain ⟨T1, h1, h2⟩ := Rd.told noNumP mixedP (specs_none Try.prog) (fun _ _ => rfl) hraw (hk (bF cc0) hn)
  exact ⟨T1, h1, h2⟩
theorem loopA45 {a : Option Addr} {c C n : Nat} {ends : List Int} {M0 M : Mem} (hM : MemOk M) (X : Ext M0 M) (hs : pInts ends (.slice a ends.length c) M0) (hb : ∀ x ∈ ends, 0 ≤ x ∧ x < (n : Int)) (hl : ends.length ≤ 400) (hC : M0.next ≤ C) (gC : M.get C = some ⟨List.replicate n (i64 0), 3, 1, 0, true⟩) :
    ∃ M', LoopR Try.prog [] (q36.loopAt 0) Try.f36.ntmps (fr [(0, i64 ((n : Nat) : Int)), (1, .slice a ends.length c), (5, sli C 0 n (n + 1)), (15, .slice a ends.length c), (16, i64 ((ends.length : Nat) : Int)), (17, i64 ((0 : Nat) : Int))]) M (.exit 0) (fr [(0, i64 ((n : Nat) : Int)), (1, .slice a ends.length c), (5, sli C 0 n (n + 1))]) M' ∧ Ext M0 M' ∧ MemOk M' ∧ M'.get C = some ⟨cntCells (keyE ends) ends.length n, 3, 1, 0, true⟩ := by
  obtain ⟨_, M', h1, h2, h3, h4⟩ := LoopR.for (P := Try.prog) (GL := []) (b := q36.loopAt 0) (nt := Try.f36.ntmps) (id := 0) (σ := Unit) (n := ends.length) (Inv := fun i _ M1 => Ext M0 M1 ∧ MemOk M1 ∧ M1.get C = some ⟨cntCells (keyE ends) i n, 3, 1, 0, true⟩)
    (F := fun i _ => [(0, i64 ((n : Nat) : Int)), (1, .slice a ends.length c), (5, sli C 0 n (n + 1)), (15, .slice a ends.length c), (16, i64 ((ends.length : Nat) : Int)), (17, i64 ((i : Nat) : Int))])
    (O := fun _ => [(0, i64 ((n : Nat) : Int)), (1, .slice a ends.length c), (5, sli C 0 n (n + 1))])
    (by
      rintro i _ M1 hi ⟨X1, hM1, hg1⟩
      obtain ⟨bb, o, rfl, _⟩ := form_pos hs (by omega)
      have ht : ends[i]? = some ends[i] := List.getElem?_eq_getElem hi
      have hk := keyE_lt hb hi
      have hbi := hb _ (List.getElem_mem hi)
      have e0 : 0 + (ends[i] : Int).toNat * 1 = keyE ends i := by rw [keyE_at hi]; omega
      obtain ⟨T1, M2, h1, h2, h3, h4, h5, _⟩ := rA45 C n bb o ends.length c i ends[i] ((cnt (keyE ends) i (keyE ends i) : Nat) : Int) _ hM1 X1 hC hg1 (decide_eq_true (by omega)) (ld_one (P := Try.prog) (ty := 3) hs ht rfl dC3) hbi (by rw [e0]; exact cntCells_get _ _ hk) (by rw [e0, cntCells_len]; omega)
      rw [wrap_succ (by omega)] at h2
      have hc := cnt_le (keyE ends) i (keyE ends i)
      rw [e0, wrap_succ (by omega), cntCells_step _ hk] at h5
      exact ⟨(), T1, M2, h1, h2, h3, h4, h5⟩)
    (by
      rintro _ M1 ⟨X1, hM1, hg1⟩
      exact rA45x C n a ends.length c ends.length (M := M1) (decide_eq_false (by omega)))
    ends.length 0 (by omega) (s := ()) (M := M) ⟨X, hM, by rw [cntCells_zero]; exact gC⟩
  exact ⟨M', h1, h2, h3, h4⟩
theorem loopB45 {C D E n : Nat} {ends : List Int} {M0 M : Mem} (hM : MemOk M) (X : Ext M0 M) (hb : ∀ x ∈ ends, 0 ≤ x ∧ x < (n : Int)) (hl : ends.length ≤ 400) (hn : n ≤ 60) (hE : M0.next ≤ E) (gC : M.get C = some ⟨cntCells (keyE ends) ends.length n, 3, 1, 0, true⟩) (gD : M.get D = some ⟨List.replicate ends.length (i64 0), 3, 1, 0, true⟩) (gE : M.get E = some ⟨List.replicate n sln, 22, 1, 0, true⟩) (dCE : C ≠ E) (dDE : D ≠ E) :
    ∃ M', LoopR Try.prog [] (q36.loopAt 2) Try.f36.ntmps (fr [(8, sli D 0 ends.length (ends.length + 1)), (9, sli E 0 n (n + 1)), (10, i64 ((0 : Nat) : Int)), (33, sli C 0 n (n + 1)), (34, i64 ((n : Nat) : Int)), (35, i64 ((0 : Nat) : Int))]) M (.exit 2) (fr [(9, sli E 0 n (n + 1))]) M' ∧ Ext M0 M' ∧ MemOk M' ∧ M'.get D = some ⟨List.replicate ends.length (i64 0), 3, 1, 0, true⟩ ∧ M'.get E = some ⟨rowCells D (cnt (keyE ends) ends.length) (fun _ => 0) n, 22, 1, 0, true⟩ := by
  have hall := offS_cnt (keyE ends) n ends.length fun j hj => keyE_lt hb hj
  have hxl := rowCells_len D (cnt (keyE ends) ends.length) (fun _ => 0) n
  obtain ⟨_, M', h1, h2, h3, h4, h5, h6⟩ := LoopR.for (P := Try.prog) (GL := []) (b := q36.loopAt 2) (nt := Try.f36.ntmps) (id := 2) (σ := Unit) (n := n) (Inv := fun i _ M1 => Ext M0 M1 ∧ MemOk M1 ∧ M1.get C = some ⟨cntCells (keyE ends) ends.length n, 3, 1, 0, true⟩ ∧ M1.get D = some ⟨List.replicate ends.length (i64 0), 3, 1, 0, true⟩ ∧ M1.get E = some ⟨fillS (rowCells D (cnt (keyE ends) ends.length) (fun _ => 0) n) i sln, 22, 1, 0, true⟩)
    (F := fun i _ => [(8, sli D 0 ends.length (ends.length + 1)), (9, sli E 0 n (n + 1)), (10, i64 ((offS (cnt (keyE ends) ends.length) i : Nat) : Int)), (33, sli C 0 n (n + 1)), (34, i64 ((n : Nat) : Int)), (35, i64 ((i : Nat) : Int))])
    (O := fun _ => [(9, sli E 0 n (n + 1))])
    (by
      rintro i _ M1 hi ⟨X1, hM1, hg1, hg2, hg3⟩
      have hnx := offS_next (cnt (keyE ends) ends.length) hi
      have e0 : 0 + (((i : Nat) : Int) : Int).toNat * 1 = i := by simp
      have ew := wrap_add (i := offS (cnt (keyE ends) ends.length) i) (j := cnt (keyE ends) ends.length i) (by omega)
      obtain ⟨T1, M2, h1, h2, h3, h4, h5, h6, h7, _⟩ := rB45 C D E n ends.length (offS (cnt (keyE ends) ends.length) i) (cnt (keyE ends) ends.length i) i _ _ _ hM1 X1 hE hg1 hg2 hg3 dCE dDE (decide_eq_true (by omega)) (by rw [e0]; exact cntCells_get _ _ hi) ⟨by omega, by omega⟩ ew (by rw [e0, fillS_len _ _ (by omega)]; omega)
      rw [wrap_succ (by omega), ew] at h2
      have hst := fillS_step (z := sln) (rowCells_get D (cnt (keyE ends) ends.length) (fun _ => 0) hi)
      simp only [cellR] at hst
      rw [e0, Nat.zero_add, Nat.add_sub_cancel_left, hst] at h7
      exact ⟨(), T1, M2, h1, h2, h3, h4, h5, h6, h7⟩)
    (by
      rintro _ M1 ⟨X1, hM1, _⟩
      exact rB45x C D E n ends.length _ n (M := M1) (decide_eq_false (by omega)))
    n 0 (by omega) (s := ()) (M := M) ⟨X, hM, gC, gD, by rw [fillS_zero, hxl]; exact gE⟩
  refine ⟨M', h1, h2, h3, h5, ?_⟩
  have := fillS_all (rowCells D (cnt (keyE ends) ends.length) (fun _ => 0) n) sln
  rw [hxl] at this
  rw [this] at h6
  exact h6
theorem rK36 : Try.f36.results = #[.tmp 4] := by kernel_rfl
theorem w45_raw (n : Nat) (aends : Option Addr) (cends : Nat) (ends : List Int) (M : Mem) (b1 : Nat) (M2 : Mem) (M9 : Mem) (b15 : Nat) (M16 : Mem) (b24 : Nat) (M25 : Mem) (M34 : Mem) : oT Try.prog [0, 2] 60 Try.f36 q36 [(i64 ((n : Nat) : Int)), (.slice aends ends.length cends)] M [ttV 5 (sli b1 0 n (n + 1)) M2, ttT 11, .blk 14 [0, 1, 5, 15, 16, 17] .normal (fr [(0, (i64 (((n : Nat) : Int)))), (1, (.slice aends ends.length cends)), (5, (sli b1 0 n (n + 1)))]) M9, ttT 18, ttV 20 (sli b15 0 ends.length (ends.length + 1)) M16, ttV 26 (sli b24 0 n (n + 1)) M25, .blk 37 [8, 9, 10, 33, 34, 35] .normal (fr [(9, (sli b24 0 n (n + 1)))]) M34] 4 = some (.ret, some (sli b24 0 n (n + 1)), M34, [.eq (amakeSlice Try.prog 22 (i64 (((n : Nat) : Int))) (i64 (((n : Nat) : Int))) M) (1, .val (sli b1 0 n (n + 1)), M2), .ln aends ends.length cends, .blk 0 (.loop (q36.loopAt 0)) Try.f36.ntmps [0, 1, 5, 15, 16, 17] [some (i64 (((n : Nat) : Int))), some (.slice aends ends.length cends), some (sli b1 0 n (n + 1)), some (.slice aends ends.length cends), some (i64 (((ends.length : Nat) : Int))), some (i64 0)] M2 .normal (fr [(0, (i64 (((n : Nat) : Int)))), (1, (.slice aends ends.length cends)), (5, (sli b1 0 n (n + 1)))]) M9, .ln aends ends.length cends, .eq (amakeSlice Try.prog 22 (i64 (((ends.length : Nat) : Int))) (i64 (((ends.length : Nat) : Int))) M9) (1, .val (sli b15 0 ends.length (ends.length + 1)), M16), .eq (amakeSlice Try.prog 46 (i64 (((n : Nat) : Int))) (i64 (((n : Nat) : Int))) M16) (1, .val (sli b24 0 n (n + 1)), M25), .blk 2 (.loop (q36.loopAt 2)) Try.f36.ntmps [8, 9, 10, 33, 34, 35] [some (sli b15 0 ends.length (ends.length + 1)), some (sli b24 0 n (n + 1)), some (i64 0), some (sli b1 0 n (n + 1)), some (i64 (((n : Nat) : Int))), some (i64 0)] M25 .normal (fr [(9, (sli b24 0 n (n + 1)))]) M34]) := by kernel_rfl
theorem w45 (n : Nat) (aends : Option Addr) (cends : Nat) (ends : List Int) {M : Mem} (hM : MemOk M) (hends : pInts ends (.slice aends ends.length cends) M) (hcond : ends.length ≤ 400 ∧ n ≤ 60 ∧ ∀ x ∈ ends, 0 ≤ x ∧ x < (n : Int)) : ∃ v M', Ev Try.prog [] 36 [(i64 ((n : Nat) : Int)), (.slice aends ends.length cends)] M v M' ∧ Ext M M' ∧ MemOk M' ∧ pRoom (n, ends) M.next v M' := by
  obtain ⟨b1, M2, eb3, em4, g5, E6, hM7⟩ := mks_t (P := Try.prog) (t := 22) (elem := 3) (z := (i64 0)) (n := n) hM (by kernel_rfl) (by kernel_rfl) (by have := hcond.1; have := hcond.2.1; omega)
  have nb1 : M.next ≤ b1 := by rw [← eb3]; exact (Ext.refl M).next
  have X8 := (Ext.refl M).trans E6
  obtain ⟨M9, hL10, X11, hM12, g13⟩ := loopA45 hM7 X8 hends hcond.2.2 hcond.1 nb1 g5
  obtain ⟨b15, M16, eb17, em18, g19, E20, hM21⟩ := mks_t (P := Try.prog) (t := 22) (elem := 3) (z := (i64 0)) (n := ends.length) hM12 (by kernel_rfl) (by kernel_rfl) (by have := hcond.1; have := hcond.2.1; omega)
  have nb15 : M.next ≤ b15 := by rw [← eb17]; exact X11.next
  have db1b15 : b1 ≠ b15 := by have := Mem.lt_of_get g13; omega
  have g22 := E20.old g13
  have X23 := X11.trans E20
  obtain ⟨b24, M25, eb26, em27, g28, E29, hM30⟩ := mks_t (P := Try.prog) (t := 46) (elem := 22) (z := sln) (n := n) hM21 (by kernel_rfl) (by kernel_rfl) (by have := hcond.1; have := hcond.2.1; omega)
  have nb24 : M.next ≤ b24 := by rw [← eb26]; exact X23.next
  have db1b24 : b1 ≠ b24 := by have := Mem.lt_of_get g22; omega
  have db15b24 : b15 ≠ b24 := by have := Mem.lt_of_get g19; omega
  have g31 := E29.old g22
  have g32 := E29.old g19
  have X33 := X23.trans E29
  obtain ⟨M34, hL35, X36, hM37, g38, g39⟩ := loopB45 hM30 X33 hcond.2.2 hcond.1 hcond.2.1 nb24 g31 g32 g28 db1b24 db15b24
  have hraw := w45_raw n aends cends ends M  b1 M2 M9 b15 M16 b24 M25 M34
  exact ⟨(sli b24 0 n (n + 1)), M34, Ev.told_tmp noNumP mixedP Try.func36 q36_ok (by kernel_rfl) rK36 (fun B => specsB_ok (l := []) (fun p hp => by cases hp) (k := [(0, bone (.loop (q36.loopAt 0)) Try.f36.ntmps [0, 1, 5, 15, 16, 17] [some (i64 (((n : Nat) : Int))), some (.slice aends ends.length cends), some (sli b1 0 n (n + 1)), some (.slice aends ends.length cends), some (i64 (((ends.length : Nat) : Int))), some (i64 0)] M2 .normal (fr [(0, (i64 (((n : Nat) : Int)))), (1, (.slice aends ends.length cends)), (5, (sli b1 0 n (n + 1)))]) M9), (2, bone (.loop (q36.loopAt 2)) Try.f36.ntmps [8, 9, 10, 33, 34, 35] [some (sli b15 0 ends.length (ends.length + 1)), some (sli b24 0 n (n + 1)), some (i64 0), some (sli b1 0 n (n + 1)), some (i64 (((n : Nat) : Int))), some (i64 0)] M25 .normal (fr [(9, (sli b24 0 n (n + 1)))]) M34)]) (fun p hp => by simp only [List.mem_cons, List.not_mem_nil, or_false] at hp; rcases hp with rfl | rfl <;> first | exact BlkOk.loop noNumP mixedP hL10 | exact BlkOk.loop noNumP mixedP hL35)) (fun _ h => blksF_two h) hraw (hk (q_eq em4 Nat.one_ne_zero) (hk (lN hends.ln) (hk (q_blk rfl) (hk (lN hends.ln) (hk (q_eq em18 Nat.one_ne_zero) (hk (q_eq em27 Nat.one_ne_zero) (hk (q_blk rfl) hn))))))), X36, hM37, ⟨b24, b15, rfl, nb24, nb15, db15b24, g39, g38⟩⟩
abbrev Q36 := FC (asP (as2 pN pInts) fun x : Nat × List Int => x.2.length ≤ 400 ∧ x.1 ≤ 60 ∧ ∀ z ∈ x.2, 0 ≤ z ∧ z < (x.1 : Int)) pRoom id
theorem con36 {x : Nat × List Int} {lv : List Value} {M : Mem} (hM : MemOk M) (h : (asP (as2 pN pInts) fun x : Nat × List Int => x.2.length ≤ 400 ∧ x.1 ≤ 60 ∧ ∀ z ∈ x.2, 0 ≤ z ∧ z < (x.1 : Int)) x lv M) : ∃ v M', Con Try.prog [] 36 Q36 lv M v M' := by
  refine FC.con h ?_
  obtain ⟨⟨g0, g1, rfl, rfl, k1⟩, hcond⟩ := h
  obtain ⟨n, ends⟩ := x
  obtain ⟨a, c, rfl⟩ := GRowsAt.form k1
  obtain ⟨v, M', h1, h2, _, h3⟩ := w45 n a c ends hM k1 hcond
  exact ⟨v, M', h1, h2, h3⟩
end Go.Proofs.Ytipnhelkganmdaa
