/-
  Package adj: each of its laws for every argument; no conditions. The last text states which.
-/
import Derived.Test.YtipnhelkganmdaaU6
import Derived.Test.YtipnhelkganmdaaGAmTn
import Derived.Test.YtipnhelkganmdaaGAmMk
open Go Go.Am Go.Proofs
namespace Go.Proofs.Ytipnhelkganmdaa
set_option maxRecDepth 100000
set_option linter.unusedVariables false
set_option linter.unusedSimpArgs false
theorem r8a_raw (p k i : Nat) (S VS VF : Value) (l : List E4) (M : Mem) (b1 : Nat) (M2 : Mem) (t12 : Bool) (S13 : Value) (M14 : Mem) (M23 : Mem) : oR Try.prog [] 100 Try.f8 (q8.loopAt 0) [(1, VS), (2, VF), (7, (i64 (((k : Nat) : Int)))), (8, (pt p 0)), (9, (i64 (((i : Nat) : Int))))] M [ttT 8, ttL 12 S, ttV 26 (sli b1 0 1 2) M2, .at 28 ((bif t12 then 1 else 2), .val S13, M14), ttS 32 M23] [1, 2, 7, 8, 9] = some (.normal, [some VS, some VF, some (i64 (((k : Nat) : Int))), some (pt p 0), some (i64 (IntKind.wrap .i64 ((((i : Nat) : Int)) + (1 : Int))))], M23, [qT (decide ((IntKind.wrap .i64 ((((i : Nat) : Int)) + (1 : Int))) < (((k : Nat) : Int)))), qL 24 p 1 M S, .eq (abuildSlice Try.prog 24 1 [(0, (.agg ⟨[(i64 (((i : Nat) : Int))), (i64 (IntKind.wrap .i64 ((((i : Nat) : Int)) + (1 : Int)))), (i64 ((((i : Nat) : Int)).tmod (5 : Int))), (i64 0)]⟩))] M) (1, .val (sli b1 0 1 2), M2), .q (.append [24, 24] S (sli b1 0 1 2) M2) ((bif t12 then 1 else 2), .val S13, M14), qS 24 p 1 S13 M14 M23]) := by cases t12 <;> kernel_rfl
theorem r8a (p k i : Nat) (S VS VF : Value) (l : List E4) {M M0 : Mem} (hM : MemOk M) (X0 : Ext M0 M) (np : M0.next ≤ p) (gp : M.get p = some ⟨[i64 ((k : Nat) : Int), S], 26, 2, 0, true⟩) (hA : AccC 32 4 M0 [p] l.length ((l.map eRow).flatten) S M) (hl30 : l.length < 1073741824) (cc0 : (decide ((IntKind.wrap .i64 ((((i : Nat) : Int)) + (1 : Int))) < (((k : Nat) : Int)))) = true) : ∃ T1 M' S13, Rd Try.prog [] (q8.loopAt 0) Try.f8.ntmps (fr [(1, VS), (2, VF), (7, (i64 (((k : Nat) : Int)))), (8, (pt p 0)), (9, (i64 (((i : Nat) : Int))))]) M .normal T1 M' ∧ [1, 2, 7, 8, 9].map T1.get = [some VS, some VF, some (i64 (((k : Nat) : Int))), some (pt p 0), some (i64 (IntKind.wrap .i64 ((((i : Nat) : Int)) + (1 : Int))))] ∧ Ext M0 M' ∧ MemOk M' ∧ M'.get p = some ⟨[(i64 (((k : Nat) : Int))), S13], 26, 2, 0, true⟩ ∧ AccC 32 4 M0 [p] (l.length + 1) ((l.map eRow).flatten ++ [(i64 (((i : Nat) : Int))), (i64 (IntKind.wrap .i64 ((((i : Nat) : Int)) + (1 : Int)))), (i64 ((((i : Nat) : Int)).tmod (5 : Int))), (i64 0)]) S13 M' := by
  obtain ⟨b1, M2, eb3, em4, g5, E6, hM7⟩ := new_t hM ⟨[(i64 (((i : Nat) : Int))), (i64 (IntKind.wrap .i64 ((((i : Nat) : Int)) + (1 : Int)))), (i64 ((((i : Nat) : Int)).tmod (5 : Int))), (i64 0)], 32, 4, 0, true⟩
  have nb1 : M0.next ≤ b1 := by rw [← eb3]; exact X0.next
  have dpb1 : p ≠ b1 := by have := Mem.lt_of_get gp; omega
  have A8 := hA.new eb3 E6
  have g9 := E6.old gp
  have nx10 := E6.next
  have X11 := X0.trans E6
  obtain ⟨t12, S13, M14, q15, X16, hM17, A18, kb19, ka20⟩ := accc_append (P := Try.prog) (sT := 24) (xT := 24) (y := 32) (c := 2) A8 X11 hM7 (by intro x hx; simp only [List.mem_cons, List.not_mem_nil, or_false] at hx; rcases hx with rfl | rfl <;> first | exact Mem.lt_of_get g5 | exact Mem.lt_of_get g9) (by kernel_rfl) (by kernel_rfl) (by kernel_rfl) (by kernel_rfl) (by decide) (by decide) rfl hl30 g5 (o := 0) (new := [(i64 (((i : Nat) : Int))), (i64 (IntKind.wrap .i64 ((((i : Nat) : Int)) + (1 : Int)))), (i64 ((((i : Nat) : Int)).tmod (5 : Int))), (i64 0)]) rfl rfl rfl
  have g21 := kb19 _ _ g9 (by simp)
  have g22 := kb19 _ _ g5 (by simp)
  obtain ⟨M23, q24, g25, kp26, X27, hM28, nx29⟩ := store_t (o := 1) (v := S13) (new := [(i64 (((k : Nat) : Int))), S13]) X16 np hM17 dS24 g21 (by rw [cells_cell A18.isCell]; rfl) (by rw [cells_cell A18.isCell]; show (isCell _ && true) = true; rw [A18.isCell]; rfl) (Nat.zero_le _) (Nat.le_of_ble_eq_true rfl) (by rw [cells_cell A18.isCell]; rfl)
  replace g25 : M23.get p = some ⟨[(i64 (((k : Nat) : Int))), S13], 26, 2, 0, true⟩ := g25
  have A30 := A18.keep (by simp) (fun id h _ => kp26 id h)
  have g31 := (kp26 _ (Ne.symm dpb1)).trans g22
  have hraw := r8a_raw p k i S VS VF l M  b1 M2 t12 S13 M14 M23
  obtain ⟨T1, h1, h2⟩ := Rd.told noNumP mixedP (specs_none Try.prog) (fun _ _ => rfl) hraw (hk (bT cc0) (hk (lC dC24 gp rfl) (hk (q_eq (by rw [← eb3, ← em4]; kernel_rfl) Nat.one_ne_zero) (hk (q_app q15 (by cases t12 <;> simp)) (hk (q_st q24) hn)))))
  exact ⟨T1, M23, S13, h1, h2, X27, hM28, g25, A30.less (by intro x hx; simp only [List.mem_cons, List.not_mem_nil, or_false] at hx; subst hx; simp)⟩
theorem r8ax_raw (p k i : Nat) (VS VF : Value) (M : Mem)  : oR Try.prog [] 60 Try.f8 (q8.loopAt 0) [(1, VS), (2, VF), (7, (i64 (((k : Nat) : Int)))), (8, (pt p 0)), (9, (i64 (((i : Nat) : Int))))] M [ttF 8] [1, 2, 7, 8] = some ((.exit 0), [some VS, some VF, some (i64 (((k : Nat) : Int))), some (pt p 0)], M, [qF (decide ((IntKind.wrap .i64 ((((i : Nat) : Int)) + (1 : Int))) < (((k : Nat) : Int))))]) := by kernel_rfl
theorem r8ax (p k i : Nat) (VS VF : Value) {M : Mem} (cc0 : (decide ((IntKind.wrap .i64 ((((i : Nat) : Int)) + (1 : Int))) < (((k : Nat) : Int)))) = false) : ∃ T1, Rd Try.prog [] (q8.loopAt 0) Try.f8.ntmps (fr [(1, VS), (2, VF), (7, (i64 (((k : Nat) : Int)))), (8, (pt p 0)), (9, (i64 (((i : Nat) : Int))))]) M (.exit 0) T1 M ∧ [1, 2, 7, 8].map T1.get = [some VS, some VF, some (i64 (((k : Nat) : Int))), some (pt p 0)] := by
  have hraw := r8ax_raw p k i VS VF M  
  obtain ⟨T1, h1, h2⟩ := Rd.told noNumP mixedP (specs_none Try.prog) (fun _ _ => rfl) hraw (hk (bF cc0) hn)
  exact ⟨T1, h1, h2⟩
theorem acc_newE {M0 M : Mem} {S : Value} {l : List E4} {bad : List Nat} (h : AccC 32 4 M0 bad l.length ((l.map eRow).flatten) S M) (hl : l.length ≤ 9223372036854775807) : pEdges l S (hid M0.next M) := by
  rcases h with ⟨rfl, h0, _⟩ | ⟨b, rfl, _, _, h3, h5, h6⟩
  · rw [List.eq_nil_of_length_eq_zero h0]; exact GRowsAt.nil none
  · exact GRowsAt.of_blk' (hid_of h3 h6) rfl rfl (fun _ _ => rfl) hl
theorem loop8a {p k : Nat} {VS VF : Value} {M0 M : Mem} (hM : MemOk M) (X : Ext M0 M) (np : M0.next ≤ p) (gp : M.get p = some ⟨[i64 ((k : Nat) : Int), sln], 26, 2, 0, true⟩) (hk : 1 ≤ k ∧ k ≤ 40) :
    ∃ S M', LoopR Try.prog [] (q8.loopAt 0) Try.f8.ntmps (fr [(1, VS), (2, VF), (7, i64 ((k : Nat) : Int)), (8, pt p 0), (9, i64 ((0 : Nat) : Int))]) M (.exit 0) (fr [(1, VS), (2, VF), (7, i64 ((k : Nat) : Int)), (8, pt p 0)]) M' ∧ Ext M0 M' ∧ MemOk M' ∧ M'.get p = some ⟨[i64 ((k : Nat) : Int), S], 26, 2, 0, true⟩ ∧ pEdges (lineL (k - 1)) S (hid M0.next M') := by
  obtain ⟨S, M', h1, h2, h3, h4, h5⟩ := LoopR.for (P := Try.prog) (GL := []) (b := q8.loopAt 0) (nt := Try.f8.ntmps) (id := 0) (σ := Value) (n := k - 1) (Inv := fun i S M1 => Ext M0 M1 ∧ MemOk M1 ∧ M1.get p = some ⟨[i64 ((k : Nat) : Int), S], 26, 2, 0, true⟩ ∧ AccC 32 4 M0 [p] (lineL i).length (((lineL i).map eRow).flatten) S M1)
    (F := fun i _ => [(1, VS), (2, VF), (7, i64 ((k : Nat) : Int)), (8, pt p 0), (9, i64 ((i : Nat) : Int))])
    (O := fun _ => [(1, VS), (2, VF), (7, i64 ((k : Nat) : Int)), (8, pt p 0)])
    (by
      rintro i S M1 hi ⟨X1, hM1, hg, hA⟩
      have hw : IntKind.wrap .i64 ((((i : Nat) : Int)) + (1 : Int)) = ((i + 1 : Nat) : Int) := wrap_succ (by omega)
      obtain ⟨T1, M2, S2, h1, h2, h3, h4, h5, h6⟩ := r8a p k i S VS VF (lineL i) hM1 X1 np hg hA (by rw [lineL_len]; omega) (decide_eq_true (by rw [hw]; omega))
      rw [hw] at h2 h6
      refine ⟨S2, T1, M2, h1, h2, h3, h4, h5, ?_⟩
      rw [lineL_succ, List.length_append, List.map_append, List.flatten_append]
      simp only [List.map_cons, List.map_nil, List.flatten_cons, List.flatten_nil, List.append_nil]
      exact h6)
    (by
      rintro S M1 ⟨X1, hM1, hg, hA⟩
      have hw : IntKind.wrap .i64 ((((k - 1 : Nat) : Int)) + (1 : Int)) = ((k - 1 + 1 : Nat) : Int) := wrap_succ (by omega)
      exact r8ax p k (k - 1) VS VF (M := M1) (decide_eq_false (by rw [hw]; omega)))
    (k - 1) 0 (by omega) (s := sln) (M := M) ⟨X, hM, gp, .inl ⟨rfl, rfl, rfl⟩⟩
  exact ⟨S, M', h1, h2, h3, h4, acc_newE h5 (by rw [lineL_len]; omega)⟩
theorem r8bn_raw (k u : Nat) (v s : Int) (VR : Value) (M : Mem)  : oR Try.prog [] 60 Try.f8 (q8.loopAt 2) [(7, (i64 (((k : Nat) : Int)))), (11, (i64 v)), (12, (i64 s)), (13, VR), (14, (i64 (((u : Nat) : Int))))] M [ttT 10, ttT 12, ttT 14, ttT 16, ttT 18, ttT 19, ttT 20, ttT 22, ttT 25, ttT 26] [7, 11, 12, 13, 14] = some (.normal, [some (i64 (((k : Nat) : Int))), some (i64 v), some (i64 s), some VR, some (i64 (IntKind.wrap .i64 ((((u : Nat) : Int)) + (1 : Int))))], M, [qT (decide ((IntKind.wrap .i64 ((((u : Nat) : Int)) + (1 : Int))) < (((k : Nat) : Int)))), qT (decide ((IntKind.wrap .i64 ((((u : Nat) : Int)) + (1 : Int))) < (((k : Nat) : Int)))), qT (decide ((IntKind.wrap .i64 ((((u : Nat) : Int)) + (1 : Int))) < (((k : Nat) : Int)))), qT (decide ((IntKind.wrap .i64 ((((u : Nat) : Int)) + (1 : Int))) < (((k : Nat) : Int)))), qT (decide ((IntKind.wrap .i64 ((((u : Nat) : Int)) + (1 : Int))) < (((k : Nat) : Int)))), .q (.inb (IntKind.wrap .u64 ((((u : Nat) : Int)).tmod (5 : Int))) 64) (ansB true), qT (decide ((IntKind.wrap .i64 ((((u : Nat) : Int)) + (1 : Int))) < (((k : Nat) : Int)))), qT (decide ((IntKind.wrap .i64 ((((u : Nat) : Int)) + (1 : Int))) < (((k : Nat) : Int)))), qT (decide ((IntKind.wrap .i64 ((((u : Nat) : Int)) + (1 : Int))) < (((k : Nat) : Int)))), qT ((andI (s.fdiv (2 ^ (IntKind.wrap .u64 ((((u : Nat) : Int)).tmod (5 : Int))).toNat)) (1 : Int)) == (1 : Int))]) := by kernel_rfl
theorem r8bn (k u : Nat) (v s : Int) (VR : Value) {M : Mem} (cc0 : (decide ((IntKind.wrap .i64 ((((u : Nat) : Int)) + (1 : Int))) < (((k : Nat) : Int)))) = true) (cc1 : ((andI (s.fdiv (2 ^ (IntKind.wrap .u64 ((((u : Nat) : Int)).tmod (5 : Int))).toNat)) (1 : Int)) == (1 : Int)) = true) (hsh0 : 0 ≤ (IntKind.wrap .u64 ((((u : Nat) : Int)).tmod (5 : Int))) ∧ (IntKind.wrap .u64 ((((u : Nat) : Int)).tmod (5 : Int))) < 64) : ∃ T1, Rd Try.prog [] (q8.loopAt 2) Try.f8.ntmps (fr [(7, (i64 (((k : Nat) : Int)))), (11, (i64 v)), (12, (i64 s)), (13, VR), (14, (i64 (((u : Nat) : Int))))]) M .normal T1 M ∧ [7, 11, 12, 13, 14].map T1.get = [some (i64 (((k : Nat) : Int))), some (i64 v), some (i64 s), some VR, some (i64 (IntKind.wrap .i64 ((((u : Nat) : Int)) + (1 : Int))))] := by
  have hraw := r8bn_raw k u v s VR M  
  obtain ⟨T1, h1, h2⟩ := Rd.told noNumP mixedP (specs_none Try.prog) (fun _ _ => rfl) hraw (hk (bT cc0) (hk (bT cc0) (hk (bT cc0) (hk (bT cc0) (hk (bT cc0) (hk (q_inb hsh0.1 hsh0.2) (hk (bT cc0) (hk (bT cc0) (hk (bT cc0) (hk (bT cc1) hn))))))))))
  exact ⟨T1, h1, h2⟩
theorem r8bx2_raw (k u : Nat) (v s : Int) (VR : Value) (M : Mem)  : oR Try.prog [] 60 Try.f8 (q8.loopAt 2) [(7, (i64 (((k : Nat) : Int)))), (11, (i64 v)), (12, (i64 s)), (13, VR), (14, (i64 (((u : Nat) : Int))))] M [ttT 10, ttT 12, ttT 14, ttT 16, ttT 18, ttT 19, ttT 20, ttT 22, ttT 25, ttF 26] [11, 13, 14] = some ((.exit 2), [some (i64 v), some VR, some (i64 (((u : Nat) : Int)))], M, [qT (decide ((IntKind.wrap .i64 ((((u : Nat) : Int)) + (1 : Int))) < (((k : Nat) : Int)))), qT (decide ((IntKind.wrap .i64 ((((u : Nat) : Int)) + (1 : Int))) < (((k : Nat) : Int)))), qT (decide ((IntKind.wrap .i64 ((((u : Nat) : Int)) + (1 : Int))) < (((k : Nat) : Int)))), qT (decide ((IntKind.wrap .i64 ((((u : Nat) : Int)) + (1 : Int))) < (((k : Nat) : Int)))), qT (decide ((IntKind.wrap .i64 ((((u : Nat) : Int)) + (1 : Int))) < (((k : Nat) : Int)))), .q (.inb (IntKind.wrap .u64 ((((u : Nat) : Int)).tmod (5 : Int))) 64) (ansB true), qT (decide ((IntKind.wrap .i64 ((((u : Nat) : Int)) + (1 : Int))) < (((k : Nat) : Int)))), qT (decide ((IntKind.wrap .i64 ((((u : Nat) : Int)) + (1 : Int))) < (((k : Nat) : Int)))), qT (decide ((IntKind.wrap .i64 ((((u : Nat) : Int)) + (1 : Int))) < (((k : Nat) : Int)))), qF ((andI (s.fdiv (2 ^ (IntKind.wrap .u64 ((((u : Nat) : Int)).tmod (5 : Int))).toNat)) (1 : Int)) == (1 : Int))]) := by kernel_rfl
theorem r8bx2 (k u : Nat) (v s : Int) (VR : Value) {M : Mem} (cc0 : (decide ((IntKind.wrap .i64 ((((u : Nat) : Int)) + (1 : Int))) < (((k : Nat) : Int)))) = true) (cc1 : ((andI (s.fdiv (2 ^ (IntKind.wrap .u64 ((((u : Nat) : Int)).tmod (5 : Int))).toNat)) (1 : Int)) == (1 : Int)) = false) (hsh0 : 0 ≤ (IntKind.wrap .u64 ((((u : Nat) : Int)).tmod (5 : Int))) ∧ (IntKind.wrap .u64 ((((u : Nat) : Int)).tmod (5 : Int))) < 64) : ∃ T1, Rd Try.prog [] (q8.loopAt 2) Try.f8.ntmps (fr [(7, (i64 (((k : Nat) : Int)))), (11, (i64 v)), (12, (i64 s)), (13, VR), (14, (i64 (((u : Nat) : Int))))]) M (.exit 2) T1 M ∧ [11, 13, 14].map T1.get = [some (i64 v), some VR, some (i64 (((u : Nat) : Int)))] := by
  have hraw := r8bx2_raw k u v s VR M  
  obtain ⟨T1, h1, h2⟩ := Rd.told noNumP mixedP (specs_none Try.prog) (fun _ _ => rfl) hraw (hk (bT cc0) (hk (bT cc0) (hk (bT cc0) (hk (bT cc0) (hk (bT cc0) (hk (q_inb hsh0.1 hsh0.2) (hk (bT cc0) (hk (bT cc0) (hk (bT cc0) (hk (bF cc1) hn))))))))))
  exact ⟨T1, h1, h2⟩
theorem r8bx1_raw (k u : Nat) (v s : Int) (VR : Value) (M : Mem)  : oR Try.prog [] 60 Try.f8 (q8.loopAt 2) [(7, (i64 (((k : Nat) : Int)))), (11, (i64 v)), (12, (i64 s)), (13, VR), (14, (i64 (((u : Nat) : Int))))] M [ttF 10, ttF 12, ttF 14, ttF 16, ttF 18, ttF 20, ttF 22, ttF 25] [11, 13, 14] = some ((.exit 2), [some (i64 v), some VR, some (i64 (((u : Nat) : Int)))], M, [qF (decide ((IntKind.wrap .i64 ((((u : Nat) : Int)) + (1 : Int))) < (((k : Nat) : Int)))), qF (decide ((IntKind.wrap .i64 ((((u : Nat) : Int)) + (1 : Int))) < (((k : Nat) : Int)))), qF (decide ((IntKind.wrap .i64 ((((u : Nat) : Int)) + (1 : Int))) < (((k : Nat) : Int)))), qF (decide ((IntKind.wrap .i64 ((((u : Nat) : Int)) + (1 : Int))) < (((k : Nat) : Int)))), qF (decide ((IntKind.wrap .i64 ((((u : Nat) : Int)) + (1 : Int))) < (((k : Nat) : Int)))), qF (decide ((IntKind.wrap .i64 ((((u : Nat) : Int)) + (1 : Int))) < (((k : Nat) : Int)))), qF (decide ((IntKind.wrap .i64 ((((u : Nat) : Int)) + (1 : Int))) < (((k : Nat) : Int)))), qF (decide ((IntKind.wrap .i64 ((((u : Nat) : Int)) + (1 : Int))) < (((k : Nat) : Int))))]) := by kernel_rfl
theorem r8bx1 (k u : Nat) (v s : Int) (VR : Value) {M : Mem} (cc0 : (decide ((IntKind.wrap .i64 ((((u : Nat) : Int)) + (1 : Int))) < (((k : Nat) : Int)))) = false) : ∃ T1, Rd Try.prog [] (q8.loopAt 2) Try.f8.ntmps (fr [(7, (i64 (((k : Nat) : Int)))), (11, (i64 v)), (12, (i64 s)), (13, VR), (14, (i64 (((u : Nat) : Int))))]) M (.exit 2) T1 M ∧ [11, 13, 14].map T1.get = [some (i64 v), some VR, some (i64 (((u : Nat) : Int)))] := by
  have hraw := r8bx1_raw k u v s VR M  
  obtain ⟨T1, h1, h2⟩ := Rd.told noNumP mixedP (specs_none Try.prog) (fun _ _ => rfl) hraw (hk (bF cc0) (hk (bF cc0) (hk (bF cc0) (hk (bF cc0) (hk (bF cc0) (hk (bF cc0) (hk (bF cc0) (hk (bF cc0) hn))))))))
  exact ⟨T1, h1, h2⟩
theorem r8c_raw (m rb ro cr i : Nat) (v x : Int) (M : Mem)  : oR Try.prog [] 60 Try.f8 (q8.loopAt 4) [(11, (i64 v)), (13, (sli rb ro m cr)), (15, (i64 (((i : Nat) : Int))))] M [ttT 8, ttT 14, ttL 16 (i64 x), ttF 25] [11, 13, 15] = some (.normal, [some (i64 v), some (sli rb ro m cr), some (i64 (IntKind.wrap .i64 ((((i : Nat) : Int)) + (1 : Int))))], M, [qT (decide ((((i : Nat) : Int)) < (((m : Nat) : Int)))), .q (.inb (((i : Nat) : Int)) m) (ansB true), qL 3 rb (ro + (((i : Nat) : Int) : Int).toNat * 1) M (i64 x), qF (!(x == (IntKind.wrap .i64 (v + (((i : Nat) : Int))))))]) := by kernel_rfl
theorem r8c (m rb ro cr i : Nat) (v x : Int) {M : Mem} {M0 : Mem} (X0 : Ext M0 M) (cc0 : (decide ((((i : Nat) : Int)) < (((m : Nat) : Int)))) = true) (cc1 : (x == (IntKind.wrap .i64 (v + (((i : Nat) : Int))))) = true) (hld0 : aload Try.prog 3 ⟨rb, ro + (((i : Nat) : Int) : Int).toNat * 1, none⟩ M0 = some (i64 x)) : ∃ T1, Rd Try.prog [] (q8.loopAt 4) Try.f8.ntmps (fr [(11, (i64 v)), (13, (sli rb ro m cr)), (15, (i64 (((i : Nat) : Int))))]) M .normal T1 M ∧ [11, 13, 15].map T1.get = [some (i64 v), some (sli rb ro m cr), some (i64 (IntKind.wrap .i64 ((((i : Nat) : Int)) + (1 : Int))))] := by
  have hraw := r8c_raw m rb ro cr i v x M  
  obtain ⟨T1, h1, h2⟩ := Rd.told noNumP mixedP (specs_none Try.prog) (fun _ _ => rfl) hraw (hk (bT cc0) (hk (q_inb (by omega) (by simp at cc0; omega)) (hk (q_ld (aload_ext X0 hld0)) (hk (bF (by rw [cc1]; rfl)) hn))))
  exact ⟨T1, h1, h2⟩
theorem r8cx_raw (m cr i : Nat) (ar : Option Addr) (v : Int) (M : Mem)  : oR Try.prog [] 60 Try.f8 (q8.loopAt 4) [(11, (i64 v)), (13, (.slice ar m cr)), (15, (i64 (((i : Nat) : Int))))] M [ttT 5, ttF 8] [] = some ((.exit 4), [], M, [.ln ar m cr, qF (decide ((((i : Nat) : Int)) < (((m : Nat) : Int))))]) := by kernel_rfl
theorem r8cx (m cr i : Nat) (ar : Option Addr) (v : Int) {M : Mem} (hln : ar.isNone = true → m = 0 ∧ cr = 0) (cc0 : (decide ((((i : Nat) : Int)) < (((m : Nat) : Int)))) = false) : ∃ T1, Rd Try.prog [] (q8.loopAt 4) Try.f8.ntmps (fr [(11, (i64 v)), (13, (.slice ar m cr)), (15, (i64 (((i : Nat) : Int))))]) M (.exit 4) T1 M ∧ [].map T1.get = [] := by
  have hraw := r8cx_raw m cr i ar v M  
  obtain ⟨T1, h1, h2⟩ := Rd.told noNumP mixedP (specs_none Try.prog) (fun _ _ => rfl) hraw (hk (lN hln) (hk (bF cc0) hn))
  exact ⟨T1, h1, h2⟩
theorem wrapU5 (x : Nat) : IntKind.wrap .u64 ((((x : Nat) : Int)).tmod (5 : Int)) = ((x % 5 : Nat) : Int) := by
  rw [tmod5]
  have hx : x % 5 < 5 := Nat.mod_lt _ (by decide)
  generalize x % 5 = m at hx
  have : m = 0 ∨ m = 1 ∨ m = 2 ∨ m = 3 ∨ m = 4 := by omega
  rcases this with rfl | rfl | rfl | rfl | rfl <;> rfl
theorem loop8b {k v0 u : Nat} {v s : Int} {VR : Value} {M : Mem} (hM : MemOk M) (he : EndsAt k s v0 u) (hs : 0 ≤ s ∧ s < 32) (hk : k ≤ 40) :
    ∃ M', LoopR Try.prog [] (q8.loopAt 2) Try.f8.ntmps (fr [(7, i64 ((k : Nat) : Int)), (11, i64 v), (12, i64 s), (13, VR), (14, i64 ((v0 : Nat) : Int))]) M (.exit 2) (fr [(11, i64 v), (13, VR), (14, i64 ((u : Nat) : Int))]) M' ∧ Ext M M' ∧ MemOk M' := by
  have hw : ∀ x : Nat, x < 100 → IntKind.wrap .i64 ((((x : Nat) : Int)) + (1 : Int)) = ((x + 1 : Nat) : Int) := fun x hx => wrap_succ (by omega)
  have hm : ∀ x : Nat, 0 ≤ (IntKind.wrap .u64 ((((x : Nat) : Int)).tmod (5 : Int))) ∧ (IntKind.wrap .u64 ((((x : Nat) : Int)).tmod (5 : Int))) < 64 := fun x => by rw [wrapU5]; omega
  have hb : ∀ x : Nat, ((andI (s.fdiv (2 ^ (IntKind.wrap .u64 ((((x : Nat) : Int)).tmod (5 : Int))).toNat)) (1 : Int)) == (1 : Int)) = bitS s x := fun x => by rw [wrapU5]; exact bit_shr hs x
  have h1 := he.le
  have h2 := he.lt
  obtain ⟨_, M', e1, e2, e3⟩ := LoopR.for (P := Try.prog) (GL := []) (b := q8.loopAt 2) (nt := Try.f8.ntmps) (id := 2) (σ := Unit) (n := u - v0) (Inv := fun _ _ M1 => Ext M M1 ∧ MemOk M1)
    (F := fun i _ => [(7, i64 ((k : Nat) : Int)), (11, i64 v), (12, i64 s), (13, VR), (14, i64 ((v0 + i : Nat) : Int))])
    (O := fun _ => [(11, i64 v), (13, VR), (14, i64 ((v0 + (u - v0) : Nat) : Int))])
    (by
      rintro i _ M1 hi ⟨X1, hM1⟩
      obtain ⟨T1, k1, k2⟩ := r8bn k (v0 + i) v s VR (M := M1) (decide_eq_true (by rw [hw _ (by omega)]; omega)) (by rw [hb]; exact he.on _ (by omega) (by omega)) (hm _)
      rw [hw _ (by omega)] at k2
      exact ⟨(), T1, M1, k1, k2, X1, hM1⟩)
    (by
      rintro _ M1 ⟨X1, hM1⟩
      rw [show v0 + (u - v0) = u by omega]
      by_cases hc : u + 1 < k
      · refine r8bx2 k u v s VR (M := M1) (decide_eq_true (by rw [hw _ (by omega)]; omega)) ?_ (hm _)
        rw [hb]
        cases hq : bitS s u with
        | false => rfl
        | true => exact absurd ⟨hc, hq⟩ he.stop
      · exact r8bx1 k u v s VR (M := M1) (decide_eq_false (by rw [hw _ (by omega)]; omega)))
    (u - v0) 0 (by omega) (s := ()) (M := M) ⟨Ext.refl M, hM⟩
  rw [show v0 + (u - v0) = u by omega] at e1
  exact ⟨M', e1, e2, e3⟩
theorem loop8c {v d cr : Nat} {ar : Option Addr} {M : Mem} (hM : MemOk M) (hr : pInts (runL v d) (.slice ar d cr) M) (hvd : v + d ≤ 100) :
    ∃ M', LoopR Try.prog [] (q8.loopAt 4) Try.f8.ntmps (fr [(11, i64 ((v : Nat) : Int)), (13, .slice ar d cr), (15, i64 ((0 : Nat) : Int))]) M (.exit 4) (fr []) M' ∧ Ext M M' ∧ MemOk M' := by
  have hln := hr.ln
  have hr' : pInts (runL v d) (.slice ar (runL v d).length cr) M := by rw [runL_len]; exact hr
  obtain ⟨_, M', e1, e2, e3⟩ := LoopR.for (P := Try.prog) (GL := []) (b := q8.loopAt 4) (nt := Try.f8.ntmps) (id := 4) (σ := Unit) (n := d) (Inv := fun _ _ M1 => Ext M M1 ∧ MemOk M1)
    (F := fun i _ => [(11, i64 ((v : Nat) : Int)), (13, .slice ar d cr), (15, i64 ((i : Nat) : Int))]) (O := fun _ => [])
    (by
      rintro i _ M1 hi ⟨X1, hM1⟩
      obtain ⟨rb, ro, rfl, _⟩ := form_pos hr (by rw [runL_len]; omega)
      have lx := ld_one (P := Try.prog) (ty := 3) hr (runL_get hi) rfl dC3
      obtain ⟨T1, k1, k2⟩ := r8c d rb ro cr i ((v : Nat) : Int) ((v + i : Nat) : Int) (M := M1) X1 (decide_eq_true (by omega)) (by rw [wrap_add (by omega)]; exact beq_self_eq_true _) lx
      rw [wrap_succ (by omega)] at k2
      exact ⟨(), T1, M1, k1, k2, X1, hM1⟩)
    (by
      rintro _ M1 ⟨X1, hM1⟩
      exact r8cx d cr d ar ((v : Nat) : Int) (M := M1) hln (decide_eq_false (by omega)))
    d 0 (by omega) (s := ()) (M := M) ⟨Ext.refl M, hM⟩
  exact ⟨M', e1, e2, e3⟩
theorem rK8 : Try.f8.results = #[.tmp 6] := by kernel_rfl
theorem hS8_10_12_15_16 (B : Bd) : ∀ p ∈ ([(10, pick (Con Try.prog [] 10 Q10)), (12, pick (Con Try.prog [] 12 Q12)), (15, pick (Con Try.prog [] 15 Q15)), (16, pick (Con Try.prog [] 16 Q16))] : List (FuncId × (List Value → Mem → Option (Value × Mem)))), SpecOk Try.prog [] B p.1 p.2 := (fun p hp => by simp only [List.mem_cons, List.not_mem_nil, or_false] at hp; rcases hp with rfl | rfl | rfl | rfl <;> first | exact Con.ok _ | exact TC.ok _)
theorem w8_raw (n set fro : Int) (vv uu : Nat) (M : Mem) (M3 : Mem) (M14 : Mem) (b23 : Nat) (M24 : Mem) (M32 : Mem) (M40 : Mem) (a46 : Option Addr) (c47 : Nat) (ab48 : Nat) (M53 : Mem) (M66 : Mem) (M80 : Mem) (a92 : Option Addr) (c93 : Nat) (M97 : Mem) (M109 : Mem) (M119 : Mem) : oT Try.prog [0, 2, 4] 120 Try.f8 q8 [(i64 n), (i64 set), (i64 fro)] M [ttV 3 (.bool true) M3, ttV 10 (i64 (modI n (40 : Int))) M14, ttV 20 (pt b23 0) M24, ttS 22 M32, .blk 25 [1, 2, 7, 8, 9] .normal (fr [(1, (i64 set)), (2, (i64 fro)), (7, (i64 (IntKind.wrap .i64 ((1 : Int) + (modI n (40 : Int)))))), (8, (pt b23 0))]) M40, ttL 27 (.agg ⟨[(i64 ((((lineK n) : Nat) : Int))), (.slice a46 (lineL (lineK n - 1)).length c47)]⟩), ttV 29 (pt ab48 0) M53, ttV 42 (i64 (((vv : Nat) : Int))) M66, ttV 46 (i64 (modI set (32 : Int))) M80, ttV 58 (.slice a92 (uu - vv + 1) c93) M97, .blk 65 [7, 11, 12, 13, 14] .normal (fr [(11, (i64 (((vv : Nat) : Int)))), (13, (.slice a92 (uu - vv + 1) c93)), (14, (i64 (((uu : Nat) : Int))))]) M109, ttT 69, ttF 80, .blk 83 [11, 13, 15] .normal (fr []) M119] 6 = some (.ret, some (.bool true), M119, [qC 10 [] M (.bool true) M3, qC 15 [(i64 n), (i64 40)] M3 (i64 (modI n (40 : Int))) M14, .eq (aalloc Try.prog 26 M14) (1, .val (pt b23 0), M24), qS 26 b23 0 (.agg ⟨[(i64 (IntKind.wrap .i64 ((1 : Int) + (modI n (40 : Int))))), sln]⟩) M24 M32, .blk 0 (.loop (q8.loopAt 0)) Try.f8.ntmps [1, 2, 7, 8, 9] [some (i64 set), some (i64 fro), some (i64 (IntKind.wrap .i64 ((1 : Int) + (modI n (40 : Int))))), some (pt b23 0), some (i64 0)] M32 .normal (fr [(1, (i64 set)), (2, (i64 fro)), (7, (i64 (IntKind.wrap .i64 ((1 : Int) + (modI n (40 : Int)))))), (8, (pt b23 0))]) M40, qL 26 b23 0 M40 (.agg ⟨[(i64 ((((lineK n) : Nat) : Int))), (.slice a46 (lineL (lineK n - 1)).length c47)]⟩), qC 12 [(.agg ⟨[(i64 ((((lineK n) : Nat) : Int))), (.slice a46 (lineL (lineK n - 1)).length c47)]⟩)] M40 (pt ab48 0) M53, qC 15 [(i64 fro), (i64 (IntKind.wrap .i64 ((1 : Int) + (modI n (40 : Int)))))] M53 (i64 (((vv : Nat) : Int))) M66, qC 15 [(i64 set), (i64 32)] M66 (i64 (modI set (32 : Int))) M80, qC 16 [(pt ab48 0), (i64 (((vv : Nat) : Int))), (i64 (modI set (32 : Int)))] M80 (.slice a92 (uu - vv + 1) c93) M97, .blk 2 (.loop (q8.loopAt 2)) Try.f8.ntmps [7, 11, 12, 13, 14] [some (i64 (IntKind.wrap .i64 ((1 : Int) + (modI n (40 : Int))))), some (i64 (((vv : Nat) : Int))), some (i64 (modI set (32 : Int))), some (.slice a92 (uu - vv + 1) c93), some (i64 (((vv : Nat) : Int)))] M97 .normal (fr [(11, (i64 (((vv : Nat) : Int)))), (13, (.slice a92 (uu - vv + 1) c93)), (14, (i64 (((uu : Nat) : Int))))]) M109, .ln a92 (uu - vv + 1) c93, qF (!(((((uu - vv + 1) : Nat) : Int)) == (IntKind.wrap .i64 ((IntKind.wrap .i64 ((((uu : Nat) : Int)) - (((vv : Nat) : Int)))) + (1 : Int))))), .blk 4 (.loop (q8.loopAt 4)) Try.f8.ntmps [11, 13, 15] [some (i64 (((vv : Nat) : Int))), some (.slice a92 (uu - vv + 1) c93), some (i64 0)] M109 .normal (fr []) M119]) := by kernel_rfl
theorem w8 (n set fro : Int) (vv uu : Nat) {M : Mem} (hM : MemOk M) (hv : modI fro (((lineK n) : Nat) : Int) = ((vv : Nat) : Int)) (he : EndsAt (lineK n) (modI set 32) vv uu) (cc0 : (((((uu - vv + 1) : Nat) : Int)) == (IntKind.wrap .i64 ((IntKind.wrap .i64 ((((uu : Nat) : Int)) - (((vv : Nat) : Int)))) + (1 : Int)))) = true) : ∃ v_ M', Ev Try.prog [] 8 [(i64 n), (i64 set), (i64 fro)] M v_ M' ∧ Ext M M' ∧ MemOk M' ∧ v_ = .bool true := by
  obtain ⟨w1, N2, M3, p4, l5, e6, E7, hM8, F9⟩ := call_fc (x := ()) hM con10 (rfl)
  have nx10 := E7.next
  have ew1 : w1 = (.bool true) := F9
  subst ew1
  have X11 := (Ext.refl M).trans E7
  obtain ⟨w12, N13, M14, p15, l16, e17, E18, hM19, F20⟩ := call_fc (x := (n, (40 : Int))) hM8 con15 (⟨⟨_, _, rfl, rfl, rfl⟩, rfl⟩)
  have nx21 := E18.next
  have ew12 : w12 = (i64 (modI n (40 : Int))) := F20
  subst ew12
  have X22 := X11.trans E18
  obtain ⟨b23, M24, eb25, em26, g27, E28, hM29⟩ := new_t hM19 ⟨[(i64 0), sln], 26, 2, 0, true⟩
  have nb23 : M.next ≤ b23 := by rw [← eb25]; exact X22.next
  have nx30 := E28.next
  have X31 := X22.trans E28
  obtain ⟨M32, q33, g34, kp35, X36, hM37, nx38⟩ := store_t (o := 0) (v := (.agg ⟨[(i64 (IntKind.wrap .i64 ((1 : Int) + (modI n (40 : Int))))), sln]⟩)) (new := [(i64 (IntKind.wrap .i64 ((1 : Int) + (modI n (40 : Int))))), sln]) X31 nb23 hM29 dS26 g27 rfl rfl (Nat.zero_le _) (Nat.le_of_ble_eq_true rfl) rfl
  replace g34 : M32.get b23 = some ⟨[(i64 (IntKind.wrap .i64 ((1 : Int) + (modI n (40 : Int))))), sln], 26, 2, 0, true⟩ := g34
  rw [lineK_eq] at q33
  rw [lineK_eq] at g34
  obtain ⟨S39, M40, hL41, X42, hM43, g44, G45⟩ := loop8a hM37 X36 nb23 g34 (lineK_range n)
  obtain ⟨a46, c47, eS39⟩ := GRowsAt.form G45
  subst eS39
  replace G45 : pEdges (lineL (lineK n - 1)) (.slice a46 (lineL (lineK n - 1)).length c47) (hidx [(0, M.next)] M40) := hx_of G45
  obtain ⟨w51, N52, M53, p54, l55, e56, E57, hM58, F59⟩ := call_fc (x := ((lineK n), (lineL (lineK n - 1)))) hM43 con12 (⟨⟨_, rfl, _, rfl, hx_out (R := pEdges) G45⟩, line_chk (lineK_range n)⟩)
  have nx60 := E57.next
  have F61 := hx_ext (R := pEdges) G45 E57
  have g62 := E57.old g44
  have G49 : pAdj 48 (adjM (lineK n) (lineL (lineK n - 1))) w51 (hidx [(0, M40.next)] M53) := hx_of F59
  obtain ⟨ab48, _, _, _, _, ew51, _⟩ := id G49
  subst ew51
  have X63 := X42.trans E57
  obtain ⟨w64, N65, M66, p67, l68, e69, E70, hM71, F72⟩ := call_fc (x := (fro, (((lineK n) : Nat) : Int))) hM58 con15 (⟨⟨_, _, rfl, rfl, rfl⟩, (by have := lineK_range n; simp; omega)⟩)
  have nx73 := E70.next
  have F74 := hx_ext (R := pEdges) F61 E70
  have F75 := hx_ext (R := (pAdj 48)) G49 E70
  have g76 := E70.old g62
  have ew64 : w64 = (i64 (((vv : Nat) : Int))) := (show w64 = i64 (modI fro (((lineK n) : Nat) : Int)) from F72).trans (congrArg i64 hv)
  subst ew64
  have X77 := X63.trans E70
  obtain ⟨w78, N79, M80, p81, l82, e83, E84, hM85, F86⟩ := call_fc (x := (set, (32 : Int))) hM71 con15 (⟨⟨_, _, rfl, rfl, rfl⟩, rfl⟩)
  have nx87 := E84.next
  have F88 := hx_ext (R := pEdges) F74 E84
  have F89 := hx_ext (R := (pAdj 48)) F75 E84
  have g90 := E84.old g76
  have ew78 : w78 = (i64 (modI set (32 : Int))) := F86
  subst ew78
  have X91 := X77.trans E84
  obtain ⟨w95, N96, M97, p98, l99, e100, E101, hM102, F103⟩ := call_fc (x := ((adjM (lineK n) (lineL (lineK n - 1))), (((vv : Nat) : Int)), (modI set (32 : Int)))) hM85 con16 (⟨⟨_, _, _, rfl, hx_out (R := pAdj 48) F89, rfl, rfl⟩, okR_adjM (line_chk (lineK_range n)), (by rw [out_len]; have := lineK_range n; omega)⟩)
  have nx104 := E101.next
  have F105 := hx_ext (R := pEdges) F88 E101
  have F106 := hx_ext (R := (pAdj 48)) F89 E101
  have g107 := E101.old g90
  have G94 : pInts (runL vv (uu - vv + 1)) w95 (hidx [(0, M80.next)] M97) := by rw [← line_reach (lineK_range n) (modI_range (by decide)) he]; exact hx_of F103
  obtain ⟨a92, c93, ew95⟩ := GRowsAt.form G94
  rw [runL_len] at ew95
  subst ew95
  have X108 := X91.trans E101
  obtain ⟨M109, hL110, E111, hM112⟩ := loop8b hM102 he (modI_range (by decide)) (lineK_range n).2
  have nx113 := E111.next
  have F114 := hx_ext (R := pEdges) F105 E111
  have F115 := hx_ext (R := (pAdj 48)) F106 E111
  have F116 := hx_ext (R := pInts) G94 E111
  have g117 := E111.old g107
  have X118 := X108.trans E111
  obtain ⟨M119, hL120, E121, hM122⟩ := loop8c hM112 (hx_out (R := pInts) F116) (by have h1 := he.lt; have h2 := he.le; have h3 := lineK_range n; omega)
  have nx123 := E121.next
  have F124 := hx_ext (R := pEdges) F114 E121
  have F125 := hx_ext (R := (pAdj 48)) F115 E121
  have F126 := hx_ext (R := pInts) F116 E121
  have g127 := E121.old g117
  have X128 := X118.trans E121
  have hraw := w8_raw n set fro vv uu M  M3 M14 b23 M24 M32 M40 a46 c47 ab48 M53 M66 M80 a92 c93 M97 M109 M119
  have rw0 : (i64 (IntKind.wrap .i64 ((1 : Int) + (modI n (40 : Int))))) = (i64 ((((lineK n) : Nat) : Int))) := congrArg i64 (lineK_eq n)
  try rw [rw0] at hraw
  exact ⟨(.bool true), M119, Ev.told_tmp noNumP mixedP Try.func8 q8_ok (by kernel_rfl) rK8 (fun B => specsB_ok (hS8_10_12_15_16 B) (k := [(0, bone (.loop (q8.loopAt 0)) Try.f8.ntmps [1, 2, 7, 8, 9] [some (i64 set), some (i64 fro), some (i64 ((((lineK n) : Nat) : Int))), some (pt b23 0), some (i64 0)] M32 .normal (fr [(1, (i64 set)), (2, (i64 fro)), (7, (i64 ((((lineK n) : Nat) : Int)))), (8, (pt b23 0))]) M40), (2, bone (.loop (q8.loopAt 2)) Try.f8.ntmps [7, 11, 12, 13, 14] [some (i64 ((((lineK n) : Nat) : Int))), some (i64 (((vv : Nat) : Int))), some (i64 (modI set (32 : Int))), some (.slice a92 (uu - vv + 1) c93), some (i64 (((vv : Nat) : Int)))] M97 .normal (fr [(11, (i64 (((vv : Nat) : Int)))), (13, (.slice a92 (uu - vv + 1) c93)), (14, (i64 (((uu : Nat) : Int))))]) M109), (4, bone (.loop (q8.loopAt 4)) Try.f8.ntmps [11, 13, 15] [some (i64 (((vv : Nat) : Int))), some (.slice a92 (uu - vv + 1) c93), some (i64 0)] M109 .normal (fr []) M119)]) (fun p hp => by simp only [List.mem_cons, List.not_mem_nil, or_false] at hp; rcases hp with rfl | rfl | rfl <;> first | exact BlkOk.loop noNumP mixedP hL41 | exact BlkOk.loop noNumP mixedP hL110 | exact BlkOk.loop noNumP mixedP hL120)) (fun _ h => blksF_three h) hraw (hk (q_call rfl p4 l5 e6) (hk (q_call rfl p15 l16 e17) (hk (q_eq (by rw [← eb25, ← em26]; kernel_rfl) Nat.one_ne_zero) (hk (q_st q33) (hk (q_blk rfl) (hk (lA ⟨dA26, dS26⟩ g44 rfl) (hk (q_call rfl p54 l55 e56) (hk (q_call rfl p67 l68 e69) (hk (q_call rfl p81 l82 e83) (hk (q_call rfl p98 l99 e100) (hk (q_blk rfl) (hk (lN (GRowsAt.ln G94)) (hk (bF (by rw [cc0]; rfl)) (hk (q_blk rfl) hn)))))))))))))), X128, hM122, rfl⟩
end Go.Proofs.Ytipnhelkganmdaa
