/-
  Package adj: each of its laws for every argument; no conditions. The last text states which.
-/
import Derived.Test.YtipnhelkganmdaaU7
import Derived.Test.YtipnhelkganmdaaGAmTn
open Go Go.Am Go.Proofs
namespace Go.Proofs.Ytipnhelkganmdaa
set_option maxRecDepth 100000
set_option linter.unusedVariables false
set_option linter.unusedSimpArgs false
theorem r7a_raw (p q eb eo k ce i n : Nat) (set : Int) (S : Value) (l : List E4) (e : E4) (M : Mem) (b1 : Nat) (M2 : Mem) (M13 : Mem) (M23 : Mem) (M33 : Mem) (b43 : Nat) (M44 : Mem) (t56 : Bool) (S57 : Value) (M58 : Mem) (M69 : Mem) : oR Try.prog [] 100 Try.f7 (q7.loopAt 0) [(2, (i64 set)), (7, (pt q 0)), (8, (pt p 0)), (9, (i64 (((i : Nat) : Int))))] M [ttL 5 (sli eb eo k ce), ttT 10, ttL 14 (sli eb eo k ce), ttT 18, ttL 20 (.agg ⟨[(i64 e.f), (i64 e.t), (i64 e.m), (i64 e.c)]⟩), ttV 22 (pt b1 0) M2, ttS 24 M13, ttL 28 (i64 e.t), ttL 32 (i64 e.f), ttS 36 M23, ttS 40 M33, ttL 44 S, ttL 46 (.agg ⟨[(i64 e.t), (i64 e.f), (i64 e.m), (i64 e.c)]⟩), ttV 48 (sli b43 0 1 2) M44, .at 50 ((bif t56 then 1 else 2), .val S57, M58), ttS 54 M69] [2, 7, 8, 9] = some (.normal, [some (i64 set), some (pt q 0), some (pt p 0), some (i64 (IntKind.wrap .i64 ((((i : Nat) : Int)) + (1 : Int))))], M69, [qL 24 q 1 M (sli eb eo k ce), qT (decide ((((i : Nat) : Int)) < (((k : Nat) : Int)))), qL 24 q 1 M (sli eb eo k ce), .q (.inb (((i : Nat) : Int)) k) (ansB true), qL 32 eb (eo + (((i : Nat) : Int) : Int).toNat * 4) M (.agg ⟨[(i64 e.f), (i64 e.t), (i64 e.m), (i64 e.c)]⟩), .eq (aalloc Try.prog 32 M) (1, .val (pt b1 0), M2), qS 32 b1 0 (.agg ⟨[(i64 e.f), (i64 e.t), (i64 e.m), (i64 e.c)]⟩) M2 M13, qL 3 b1 1 M13 (i64 e.t), qL 3 b1 0 M13 (i64 e.f), qS 3 b1 0 (i64 e.t) M13 M23, qS 3 b1 1 (i64 e.f) M23 M33, qL 24 p 1 M33 S, qL 32 b1 0 M33 (.agg ⟨[(i64 e.t), (i64 e.f), (i64 e.m), (i64 e.c)]⟩), .eq (abuildSlice Try.prog 24 1 [(0, (.agg ⟨[(i64 e.t), (i64 e.f), (i64 e.m), (i64 e.c)]⟩))] M33) (1, .val (sli b43 0 1 2), M44), .q (.append [24, 24] S (sli b43 0 1 2) M44) ((bif t56 then 1 else 2), .val S57, M58), qS 24 p 1 S57 M58 M69]) := by cases t56 <;> kernel_rfl
theorem r7a (p q eb eo k ce i n : Nat) (set : Int) (S : Value) (l : List E4) (e : E4) {M M0 : Mem} (hM : MemOk M) (X0 : Ext M0 M) (np : M0.next ≤ p) (gp : M.get p = some ⟨[i64 ((n : Nat) : Int), S], 26, 2, 0, true⟩) (gq : M.get q = some ⟨[i64 ((n : Nat) : Int), (sli eb eo k ce)], 26, 2, 0, true⟩) (dpq : p ≠ q) (hA : AccC 32 4 M0 [p, q] l.length ((l.map eRow).flatten) S M) (hl30 : l.length < 1073741824) (cc0 : (decide ((((i : Nat) : Int)) < (((k : Nat) : Int)))) = true) (hld0 : aload Try.prog 32 ⟨eb, eo + (((i : Nat) : Int) : Int).toNat * 4, none⟩ M0 = some (.agg ⟨[(i64 e.f), (i64 e.t), (i64 e.m), (i64 e.c)]⟩)) : ∃ T1 M' S57, Rd Try.prog [] (q7.loopAt 0) Try.f7.ntmps (fr [(2, (i64 set)), (7, (pt q 0)), (8, (pt p 0)), (9, (i64 (((i : Nat) : Int))))]) M .normal T1 M' ∧ [2, 7, 8, 9].map T1.get = [some (i64 set), some (pt q 0), some (pt p 0), some (i64 (IntKind.wrap .i64 ((((i : Nat) : Int)) + (1 : Int))))] ∧ Ext M0 M' ∧ MemOk M' ∧ M'.get p = some ⟨[(i64 (((n : Nat) : Int))), S57], 26, 2, 0, true⟩ ∧ M'.get q = some ⟨[(i64 (((n : Nat) : Int))), (sli eb eo k ce)], 26, 2, 0, true⟩ ∧ AccC 32 4 M0 [p, q] (l.length + 1) ((l.map eRow).flatten ++ [(i64 e.t), (i64 e.f), (i64 e.m), (i64 e.c)]) S57 M' := by
  obtain ⟨b1, M2, eb3, em4, g5, E6, hM7⟩ := new_t hM ⟨[(i64 0), (i64 0), (i64 0), (i64 0)], 32, 4, 0, true⟩
  have nb1 : M0.next ≤ b1 := by rw [← eb3]; exact X0.next
  have dpb1 : p ≠ b1 := by have := Mem.lt_of_get gp; omega
  have dqb1 : q ≠ b1 := by have := Mem.lt_of_get gq; omega
  have A8 := hA.new eb3 E6
  have g9 := E6.old gp
  have g10 := E6.old gq
  have nx11 := E6.next
  have X12 := X0.trans E6
  obtain ⟨M13, q14, g15, kp16, X17, hM18, nx19⟩ := store_t (o := 0) (v := (.agg ⟨[(i64 e.f), (i64 e.t), (i64 e.m), (i64 e.c)]⟩)) (new := [(i64 e.f), (i64 e.t), (i64 e.m), (i64 e.c)]) X12 nb1 hM7 dS32 g5 rfl rfl (Nat.zero_le _) (Nat.le_of_ble_eq_true rfl) rfl
  replace g15 : M13.get b1 = some ⟨[(i64 e.f), (i64 e.t), (i64 e.m), (i64 e.c)], 32, 4, 0, true⟩ := g15
  have A20 := A8.keep (by simp) (fun id h _ => kp16 id h)
  have g21 := (kp16 _ dpb1).trans g9
  have g22 := (kp16 _ dqb1).trans g10
  obtain ⟨M23, q24, g25, kp26, X27, hM28, nx29⟩ := store_t (o := 0) (v := (i64 e.t)) (new := [(i64 e.t), (i64 e.t), (i64 e.m), (i64 e.c)]) X17 nb1 hM18 dS3 g15 rfl rfl (Nat.zero_le _) (Nat.le_of_ble_eq_true rfl) rfl
  replace g25 : M23.get b1 = some ⟨[(i64 e.t), (i64 e.t), (i64 e.m), (i64 e.c)], 32, 4, 0, true⟩ := g25
  have A30 := A20.keep (by simp) (fun id h _ => kp26 id h)
  have g31 := (kp26 _ dpb1).trans g21
  have g32 := (kp26 _ dqb1).trans g22
  obtain ⟨M33, q34, g35, kp36, X37, hM38, nx39⟩ := store_t (o := 1) (v := (i64 e.f)) (new := [(i64 e.t), (i64 e.f), (i64 e.m), (i64 e.c)]) X27 nb1 hM28 dS3 g25 rfl rfl (Nat.zero_le _) (Nat.le_of_ble_eq_true rfl) rfl
  replace g35 : M33.get b1 = some ⟨[(i64 e.t), (i64 e.f), (i64 e.m), (i64 e.c)], 32, 4, 0, true⟩ := g35
  have A40 := A30.keep (by simp) (fun id h _ => kp36 id h)
  have g41 := (kp36 _ dpb1).trans g31
  have g42 := (kp36 _ dqb1).trans g32
  obtain ⟨b43, M44, eb45, em46, g47, E48, hM49⟩ := new_t hM38 ⟨[(i64 e.t), (i64 e.f), (i64 e.m), (i64 e.c)], 32, 4, 0, true⟩
  have nb43 : M0.next ≤ b43 := by rw [← eb45]; exact X37.next
  have dpb43 : p ≠ b43 := by have := Mem.lt_of_get g41; omega
  have dqb43 : q ≠ b43 := by have := Mem.lt_of_get g42; omega
  have db1b43 : b1 ≠ b43 := by have := Mem.lt_of_get g35; omega
  have A50 := A40.new eb45 E48
  have g51 := E48.old g41
  have g52 := E48.old g42
  have g53 := E48.old g35
  have nx54 := E48.next
  have X55 := X37.trans E48
  obtain ⟨t56, S57, M58, q59, X60, hM61, A62, kb63, ka64⟩ := accc_append (P := Try.prog) (sT := 24) (xT := 24) (y := 32) (c := 2) A50 X55 hM49 (by intro x hx; simp only [List.mem_cons, List.not_mem_nil, or_false] at hx; rcases hx with rfl | rfl | rfl | rfl <;> first | exact Mem.lt_of_get g47 | exact Mem.lt_of_get g53 | exact Mem.lt_of_get g51 | exact Mem.lt_of_get g52) (by kernel_rfl) (by kernel_rfl) (by kernel_rfl) (by kernel_rfl) (by decide) (by decide) rfl hl30 g47 (o := 0) (new := [(i64 e.t), (i64 e.f), (i64 e.m), (i64 e.c)]) rfl rfl rfl
  have g65 := kb63 _ _ g51 (by simp)
  have g66 := kb63 _ _ g52 (by simp)
  have g67 := kb63 _ _ g53 (by simp)
  have g68 := kb63 _ _ g47 (by simp)
  obtain ⟨M69, q70, g71, kp72, X73, hM74, nx75⟩ := store_t (o := 1) (v := S57) (new := [(i64 (((n : Nat) : Int))), S57]) X60 np hM61 dS24 g65 (by rw [cells_cell A62.isCell]; rfl) (by rw [cells_cell A62.isCell]; show (isCell _ && true) = true; rw [A62.isCell]; rfl) (Nat.zero_le _) (Nat.le_of_ble_eq_true rfl) (by rw [cells_cell A62.isCell]; rfl)
  replace g71 : M69.get p = some ⟨[(i64 (((n : Nat) : Int))), S57], 26, 2, 0, true⟩ := g71
  have A76 := A62.keep (by simp) (fun id h _ => kp72 id h)
  have g77 := (kp72 _ (Ne.symm dpq)).trans g66
  have g78 := (kp72 _ (Ne.symm dpb1)).trans g67
  have g79 := (kp72 _ (Ne.symm dpb43)).trans g68
  have hraw := r7a_raw p q eb eo k ce i n set S l e M  b1 M2 M13 M23 M33 b43 M44 t56 S57 M58 M69
  obtain ⟨T1, h1, h2⟩ := Rd.told noNumP mixedP (specs_none Try.prog) (fun _ _ => rfl) hraw (hk (lC dC24 gq rfl) (hk (bT cc0) (hk (lC dC24 gq rfl) (hk (q_inb (by omega) (by simp at cc0; omega)) (hk (q_ld (aload_ext X0 hld0)) (hk (q_eq (by rw [← eb3, ← em4]; kernel_rfl) Nat.one_ne_zero) (hk (q_st q14) (hk (lC dC3 g15 rfl) (hk (lC dC3 g15 rfl) (hk (q_st q24) (hk (q_st q34) (hk (lC dC24 g41 rfl) (hk (lA ⟨dA32, dS32⟩ g35 rfl) (hk (q_eq (by rw [← eb45, ← em46]; kernel_rfl) Nat.one_ne_zero) (hk (q_app q59 (by cases t56 <;> simp)) (hk (q_st q70) hn))))))))))))))))
  exact ⟨T1, M69, S57, h1, h2, X73, hM74, g71, g77, A76.less (by intro x hx; simp only [List.mem_cons, List.not_mem_nil, or_false] at hx; rcases hx with rfl | rfl <;> simp)⟩
theorem r7ax_raw (p q : Nat) (ae : Option Addr) (k ce i n : Nat) (set : Int) (M : Mem)  : oR Try.prog [] 60 Try.f7 (q7.loopAt 0) [(2, (i64 set)), (7, (pt q 0)), (8, (pt p 0)), (9, (i64 (((i : Nat) : Int))))] M [ttL 5 (.slice ae k ce), ttT 7, ttF 10] [2, 7, 8] = some ((.exit 0), [some (i64 set), some (pt q 0), some (pt p 0)], M, [qL 24 q 1 M (.slice ae k ce), .ln ae k ce, qF (decide ((((i : Nat) : Int)) < (((k : Nat) : Int))))]) := by kernel_rfl
theorem r7ax (p q : Nat) (ae : Option Addr) (k ce i n : Nat) (set : Int) {M : Mem} (hln : ae.isNone = true → k = 0 ∧ ce = 0) (gq : M.get q = some ⟨[i64 ((n : Nat) : Int), (.slice ae k ce)], 26, 2, 0, true⟩) (cc0 : (decide ((((i : Nat) : Int)) < (((k : Nat) : Int)))) = false) : ∃ T1, Rd Try.prog [] (q7.loopAt 0) Try.f7.ntmps (fr [(2, (i64 set)), (7, (pt q 0)), (8, (pt p 0)), (9, (i64 (((i : Nat) : Int))))]) M (.exit 0) T1 M ∧ [2, 7, 8].map T1.get = [some (i64 set), some (pt q 0), some (pt p 0)] := by
  have hraw := r7ax_raw p q ae k ce i n set M  
  obtain ⟨T1, h1, h2⟩ := Rd.told noNumP mixedP (specs_none Try.prog) (fun _ _ => rfl) hraw (hk (lC dC24 gq rfl) (hk (lN hln) (hk (bF cc0) hn)))
  exact ⟨T1, h1, h2⟩
def MkT (M0 M : Mem) (p q : Nat) (N : Int) (l : List E4) : Prop := ∃ S, M.get p = some ⟨[i64 N, S], 26, 2, 0, true⟩ ∧ AccC 32 4 M0 [p, q] l.length ((l.map eRow).flatten) S M
theorem loop7a {p q : Nat} {ae : Option Addr} {ce n : Nat} {set : Int} {l : List E4} {M0 M : Mem} (hM : MemOk M) (X : Ext M0 M) (he : pEdges l (.slice ae l.length ce) M0) (np : M0.next ≤ p) (gp : M.get p = some ⟨[i64 ((n : Nat) : Int), sln], 26, 2, 0, true⟩) (gq : M.get q = some ⟨[i64 ((n : Nat) : Int), .slice ae l.length ce], 26, 2, 0, true⟩) (dpq : p ≠ q) (hl : l.length ≤ 400) :
    ∃ M', LoopR Try.prog [] (q7.loopAt 0) Try.f7.ntmps (fr [(2, i64 set), (7, pt q 0), (8, pt p 0), (9, i64 ((0 : Nat) : Int))]) M (.exit 0) (fr [(2, i64 set), (7, pt q 0), (8, pt p 0)]) M' ∧ Ext M0 M' ∧ MemOk M' ∧ M'.get q = some ⟨[i64 ((n : Nat) : Int), .slice ae l.length ce], 26, 2, 0, true⟩ ∧ MkT M0 M' p q ((n : Nat) : Int) (turnL l) := by
  obtain ⟨_, M', h1, h2, h3, h4, h5⟩ := LoopR.for (P := Try.prog) (GL := []) (b := q7.loopAt 0) (nt := Try.f7.ntmps) (id := 0) (σ := Unit) (n := l.length) (Inv := fun i _ M1 => Ext M0 M1 ∧ MemOk M1 ∧ M1.get q = some ⟨[i64 ((n : Nat) : Int), .slice ae l.length ce], 26, 2, 0, true⟩ ∧ MkT M0 M1 p q ((n : Nat) : Int) (turnL (l.take i)))
    (F := fun i _ => [(2, i64 set), (7, pt q 0), (8, pt p 0), (9, i64 ((i : Nat) : Int))])
    (O := fun _ => [(2, i64 set), (7, pt q 0), (8, pt p 0)])
    (by
      rintro i _ M1 hi ⟨X1, hM1, hg, S, hgp, hA⟩
      obtain ⟨eb, eo, rfl, _⟩ := form_pos he (by omega)
      have ht : l[i]? = some l[i] := List.getElem?_eq_getElem hi
      have hlt : (turnL (l.take i)).length = i := by rw [turnL_len, List.length_take]; omega
      have hst : turnL (l.take (i + 1)) = turnL (l.take i) ++ [swapE l[i]] := by
        unfold turnL
        rw [List.take_succ_eq_append_getElem hi, List.map_append]; rfl
      have hle := ld_row (P := Try.prog) (ty := 32) he ht dA32 dS32
      rw [hst]
      unfold MkT
      rw [List.length_append, List.map_append, List.flatten_append]
      obtain ⟨T1, M2, S', h1, h2, h3, h4, h5, h6, h7⟩ := r7a p q eb eo l.length ce i n set S (turnL (l.take i)) l[i] hM1 X1 np hgp hg dpq hA (by omega) (decide_eq_true (by omega)) hle
      rw [wrap_succ (by omega)] at h2
      refine ⟨(), T1, M2, h1, h2, h3, h4, h6, S', h5, ?_⟩
      simpa [eRow, swapE] using h7)
    (by
      rintro _ M1 ⟨X1, hM1, hg, hA⟩
      exact r7ax p q ae l.length ce l.length n set he.ln hg (decide_eq_false (by omega)))
    l.length 0 (by omega) (s := ()) (M := M) ⟨X, hM, gq, sln, gp, .inl ⟨rfl, rfl, rfl⟩⟩
  rw [List.take_length] at h5
  exact ⟨M', h1, h2, h3, h4, h5⟩
theorem hS7_16_17 (B : Bd) : ∀ p ∈ ([(16, pick (Con Try.prog [] 16 Q16)), (17, pick (Con Try.prog [] 17 Q17))] : List (FuncId × (List Value → Mem → Option (Value × Mem)))), SpecOk Try.prog [] B p.1 p.2 := (fun p hp => by simp only [List.mem_cons, List.not_mem_nil, or_false] at hp; rcases hp with rfl | rfl <;> first | exact Con.ok _ | exact TC.ok _)
theorem r7i_raw (q ab bb n i u : Nat) (s : Int) (VE : Value) (l : List E4) (M : Mem) (a1 : Option Addr) (c2 : Nat) (M6 : Mem) (M18 : Mem) (a29 : Option Addr) (c30 : Nat) (M34 : Mem) (M47 : Mem) : oR Try.prog [] 100 Try.f7 (q7.loopAt 4) [(7, (pt q 0)), (11, (pt ab 0)), (12, (pt bb 0)), (13, (i64 s)), (14, (i64 (((i : Nat) : Int)))), (15, (i64 (((u : Nat) : Int))))] M [ttL 5 (i64 (((n : Nat) : Int))), ttT 8, ttV 16 (.slice a1 (reachL (adjM n l) s (((i : Nat) : Int))).length c2) M6, ttV 20 (.bool (decide (((u : Nat) : Int) ∈ reachL (adjM n l) s ((i : Nat) : Int)))) M18, ttV 28 (.slice a29 (reachL (adjM n (turnL l)) s (((u : Nat) : Int))).length c30) M34, ttV 32 (.bool (decide (((u : Nat) : Int) ∈ reachL (adjM n l) s ((i : Nat) : Int)))) M47, ttF 35] [7, 11, 12, 13, 14, 15] = some (.normal, [some (pt q 0), some (pt ab 0), some (pt bb 0), some (i64 s), some (i64 (((i : Nat) : Int))), some (i64 (IntKind.wrap .i64 ((((u : Nat) : Int)) + (1 : Int))))], M47, [qL 3 q 0 M (i64 (((n : Nat) : Int))), qT (decide ((((u : Nat) : Int)) < (((n : Nat) : Int)))), qC 16 [(pt ab 0), (i64 (((i : Nat) : Int))), (i64 s)] M (.slice a1 (reachL (adjM n l) s (((i : Nat) : Int))).length c2) M6, qC 17 [(.slice a1 (reachL (adjM n l) s (((i : Nat) : Int))).length c2), (i64 (((u : Nat) : Int)))] M6 (.bool (decide (((u : Nat) : Int) ∈ reachL (adjM n l) s ((i : Nat) : Int)))) M18, qC 16 [(pt bb 0), (i64 (((u : Nat) : Int))), (i64 s)] M18 (.slice a29 (reachL (adjM n (turnL l)) s (((u : Nat) : Int))).length c30) M34, qC 17 [(.slice a29 (reachL (adjM n (turnL l)) s (((u : Nat) : Int))).length c30), (i64 (((i : Nat) : Int)))] M34 (.bool (decide (((u : Nat) : Int) ∈ reachL (adjM n l) s ((i : Nat) : Int)))) M47, qF (!((decide (((u : Nat) : Int) ∈ reachL (adjM n l) s ((i : Nat) : Int))) == (decide (((u : Nat) : Int) ∈ reachL (adjM n l) s ((i : Nat) : Int)))))]) := by kernel_rfl
theorem r7i (q ab bb n i u : Nat) (s : Int) (VE : Value) (l : List E4) {M M0 : Mem} (hM : MemOk M) (X0 : Ext M0 M) (gq : M.get q = some ⟨[i64 ((n : Nat) : Int), VE], 26, 2, 0, true⟩) (hA_ : pAdj 48 (adjM n l) (pt ab 0) M0) (hB_ : pAdj 48 (adjM n (turnL l)) (pt bb 0) M0) (hckA : chkN ((n : Nat) : Int) l = true) (hckB : chkN ((n : Nat) : Int) (turnL l) = true) (hn60 : n ≤ 60) (cc0 : (decide ((((u : Nat) : Int)) < (((n : Nat) : Int)))) = true) : ∃ T1 M', Rd Try.prog [] (q7.loopAt 4) Try.f7.ntmps (fr [(7, (pt q 0)), (11, (pt ab 0)), (12, (pt bb 0)), (13, (i64 s)), (14, (i64 (((i : Nat) : Int)))), (15, (i64 (((u : Nat) : Int))))]) M .normal T1 M' ∧ [7, 11, 12, 13, 14, 15].map T1.get = [some (pt q 0), some (pt ab 0), some (pt bb 0), some (i64 s), some (i64 (((i : Nat) : Int))), some (i64 (IntKind.wrap .i64 ((((u : Nat) : Int)) + (1 : Int))))] ∧ Ext M0 M' ∧ MemOk M' ∧ M'.get q = some ⟨[(i64 (((n : Nat) : Int))), VE], 26, 2, 0, true⟩ := by
  obtain ⟨w4, N5, M6, p7, l8, e9, E10, hM11, F12⟩ := call_fc (x := ((adjM n l), (((i : Nat) : Int)), s)) hM con16 (⟨⟨_, _, _, rfl, AP.Ext (R := (pAdj 48)) hA_ X0, rfl, rfl⟩, okR_adjM hckA, (by rw [out_len]; exact hn60)⟩)
  have nx13 := E10.next
  have g14 := E10.old gq
  have G3 : pInts (reachL (adjM n l) s (((i : Nat) : Int))) w4 M6 := newR.out (R := pInts) F12
  obtain ⟨a1, c2, ew4⟩ := GRowsAt.form G3
  subst ew4
  have X15 := X0.trans E10
  obtain ⟨w16, N17, M18, p19, l20, e21, E22, hM23, F24⟩ := call_fc (x := ((reachL (adjM n l) s (((i : Nat) : Int))), (((u : Nat) : Int)))) hM11 con17 (⟨_, _, rfl, G3, rfl⟩)
  have nx25 := E22.next
  have F26 := AP.Ext (R := pInts) G3 E22
  have g27 := E22.old g14
  have ew16 : w16 = (.bool (decide (((u : Nat) : Int) ∈ reachL (adjM n l) s ((i : Nat) : Int)))) := F24
  subst ew16
  have X28 := X15.trans E22
  obtain ⟨w32, N33, M34, p35, l36, e37, E38, hM39, F40⟩ := call_fc (x := ((adjM n (turnL l)), (((u : Nat) : Int)), s)) hM23 con16 (⟨⟨_, _, _, rfl, AP.Ext (R := (pAdj 48)) hB_ X28, rfl, rfl⟩, okR_adjM hckB, (by rw [out_len]; exact hn60)⟩)
  have nx41 := E38.next
  have F42 := AP.Ext (R := pInts) F26 E38
  have g43 := E38.old g27
  have G31 : pInts (reachL (adjM n (turnL l)) s (((u : Nat) : Int))) w32 M34 := newR.out (R := pInts) F40
  obtain ⟨a29, c30, ew32⟩ := GRowsAt.form G31
  subst ew32
  have X44 := X28.trans E38
  obtain ⟨w45, N46, M47, p48, l49, e50, E51, hM52, F53⟩ := call_fc (x := ((reachL (adjM n (turnL l)) s (((u : Nat) : Int))), (((i : Nat) : Int)))) hM39 con17 (⟨_, _, rfl, G31, rfl⟩)
  have nx54 := E51.next
  have F55 := AP.Ext (R := pInts) F42 E51
  have F56 := AP.Ext (R := pInts) G31 E51
  have g57 := E51.old g43
  have ew45 : w45 = (.bool (decide (((u : Nat) : Int) ∈ reachL (adjM n l) s ((i : Nat) : Int)))) := (show w45 = .bool (decide ((((i : Nat) : Int)) ∈ (reachL (adjM n (turnL l)) s (((u : Nat) : Int))))) from F53).trans (congrArg Value.bool (reach_turn hckA s ((i : Nat) : Int) ((u : Nat) : Int)))
  subst ew45
  have X58 := X44.trans E51
  have hraw := r7i_raw q ab bb n i u s VE l M  a1 c2 M6 M18 a29 c30 M34 M47
  obtain ⟨T1, h1, h2⟩ := Rd.told noNumP mixedP (fun B => specsB_ok (k := []) (hS7_16_17 B) (fun p hp => by cases hp)) (fun _ _ => rfl) hraw (hk (lC dC3 gq rfl) (hk (bT cc0) (hk (q_call rfl p7 l8 e9) (hk (q_call rfl p19 l20 e21) (hk (q_call rfl p35 l36 e37) (hk (q_call rfl p48 l49 e50) (hk (bF (by first | simp_all | (simp; omega))) hn)))))))
  exact ⟨T1, M47, h1, h2, X58, hM52, g57⟩
theorem r7ix_raw (q ab bb n i u : Nat) (s : Int) (VE : Value) (l : List E4) (M : Mem)  : oR Try.prog [] 60 Try.f7 (q7.loopAt 4) [(7, (pt q 0)), (11, (pt ab 0)), (12, (pt bb 0)), (13, (i64 s)), (14, (i64 (((i : Nat) : Int)))), (15, (i64 (((u : Nat) : Int))))] M [ttL 5 (i64 (((n : Nat) : Int))), ttF 8] [7, 11, 12, 13, 14] = some ((.exit 4), [some (pt q 0), some (pt ab 0), some (pt bb 0), some (i64 s), some (i64 (((i : Nat) : Int)))], M, [qL 3 q 0 M (i64 (((n : Nat) : Int))), qF (decide ((((u : Nat) : Int)) < (((n : Nat) : Int))))]) := by kernel_rfl
theorem r7ix (q ab bb n i u : Nat) (s : Int) (VE : Value) (l : List E4) {M : Mem} (gq : M.get q = some ⟨[i64 ((n : Nat) : Int), VE], 26, 2, 0, true⟩) (cc0 : (decide ((((u : Nat) : Int)) < (((n : Nat) : Int)))) = false) : ∃ T1, Rd Try.prog [] (q7.loopAt 4) Try.f7.ntmps (fr [(7, (pt q 0)), (11, (pt ab 0)), (12, (pt bb 0)), (13, (i64 s)), (14, (i64 (((i : Nat) : Int)))), (15, (i64 (((u : Nat) : Int))))]) M (.exit 4) T1 M ∧ [7, 11, 12, 13, 14].map T1.get = [some (pt q 0), some (pt ab 0), some (pt bb 0), some (i64 s), some (i64 (((i : Nat) : Int)))] := by
  have hraw := r7ix_raw q ab bb n i u s VE l M  
  obtain ⟨T1, h1, h2⟩ := Rd.told noNumP mixedP (specs_none Try.prog) (fun _ _ => rfl) hraw (hk (lC dC3 gq rfl) (hk (bF cc0) hn))
  exact ⟨T1, h1, h2⟩
theorem loop7i {q ab bb n i : Nat} {s : Int} {VE : Value} {l : List E4} {M : Mem} (hM : MemOk M) (gq : M.get q = some ⟨[i64 ((n : Nat) : Int), VE], 26, 2, 0, true⟩) (hA_ : pAdj 48 (adjM n l) (pt ab 0) M) (hB_ : pAdj 48 (adjM n (turnL l)) (pt bb 0) M) (hckA : chkN ((n : Nat) : Int) l = true) (hn60 : n ≤ 60) :
    ∃ M', LoopR Try.prog [] (q7.loopAt 4) Try.f7.ntmps (fr [(7, pt q 0), (11, pt ab 0), (12, pt bb 0), (13, i64 s), (14, i64 ((i : Nat) : Int)), (15, i64 ((0 : Nat) : Int))]) M (.exit 4) (fr [(7, pt q 0), (11, pt ab 0), (12, pt bb 0), (13, i64 s), (14, i64 ((i : Nat) : Int))]) M' ∧ Ext M M' ∧ MemOk M' := by
  obtain ⟨_, M', h1, h2, h3, _⟩ := LoopR.for (P := Try.prog) (GL := []) (b := q7.loopAt 4) (nt := Try.f7.ntmps) (id := 4) (σ := Unit) (n := n) (Inv := fun _ _ M1 => Ext M M1 ∧ MemOk M1 ∧ M1.get q = some ⟨[i64 ((n : Nat) : Int), VE], 26, 2, 0, true⟩)
    (F := fun u _ => [(7, pt q 0), (11, pt ab 0), (12, pt bb 0), (13, i64 s), (14, i64 ((i : Nat) : Int)), (15, i64 ((u : Nat) : Int))]) (O := fun _ => [(7, pt q 0), (11, pt ab 0), (12, pt bb 0), (13, i64 s), (14, i64 ((i : Nat) : Int))])
    (by
      rintro u _ M1 hi ⟨X1, hM1, hg⟩
      obtain ⟨T1, M2, h1, h2, h3, h4, h5⟩ := r7i q ab bb n i u s VE l hM1 X1 hg hA_ hB_ hckA (turn_chk hckA) hn60 (decide_eq_true (by omega))
      rw [wrap_succ (by omega)] at h2
      exact ⟨(), T1, M2, h1, h2, h3, h4, h5⟩)
    (by
      rintro _ M1 ⟨X1, hM1, hg⟩
      exact r7ix q ab bb n i n s VE l (M := M1) hg (decide_eq_false (by omega)))
    n 0 (by omega) (s := ()) (M := M) ⟨Ext.refl M, hM, gq⟩
  exact ⟨M', h1, h2, h3⟩
theorem turn_modesI {n : Nat} {l : List E4} (h : chkN ((n : Nat) : Int) l = true) {v : Int} (hv : 0 ≤ v ∧ v < (n : Int)) : modesI (adjM n (turnL l)) v = modesI (adjM n l) v := by
  rw [modes_eq (turn_chk h) hv, modes_eq h hv, turnL_len, turn_modes l v _ (Nat.le_refl _)]
theorem hS7_13_14_18_20 (B : Bd) : ∀ p ∈ ([(13, pick (Con Try.prog [] 13 Q13)), (14, pick (Con Try.prog [] 14 Q14)), (18, pick (Con Try.prog [] 18 Q18)), (20, pick (Con Try.prog [] 20 Q20))] : List (FuncId × (List Value → Mem → Option (Value × Mem)))), SpecOk Try.prog [] B p.1 p.2 := (fun p hp => by simp only [List.mem_cons, List.not_mem_nil, or_false] at hp; rcases hp with rfl | rfl | rfl | rfl <;> first | exact Con.ok _ | exact TC.ok _)
theorem r7o_raw (q ab bb n i : Nat) (s : Int) (VE : Value) (l : List E4) (M : Mem) (a1 : Option Addr) (c2 : Nat) (M6 : Mem) (a16 : Option Addr) (c17 : Nat) (M21 : Mem) (M34 : Mem) (a46 : Option Addr) (c47 : Nat) (M51 : Mem) (a63 : Option Addr) (c64 : Nat) (M68 : Mem) (M83 : Mem) (M99 : Mem) (M115 : Mem) (M129 : Mem) : oR Try.prog [4] 120 Try.f7 (q7.loopAt 2) [(7, (pt q 0)), (11, (pt ab 0)), (12, (pt bb 0)), (13, (i64 s)), (14, (i64 (((i : Nat) : Int))))] M [ttL 5 (i64 (((n : Nat) : Int))), ttT 8, ttV 14 (.slice a1 (refRow .fr l ((i : Nat) : Int) l.length).length c2) M6, ttV 20 (.slice a16 (refRow .fr l ((i : Nat) : Int) l.length).length c17) M21, ttV 22 (.bool true) M34, ttV 32 (.slice a46 (refRow .to l ((i : Nat) : Int) l.length).length c47) M51, ttV 38 (.slice a63 (refRow .to l ((i : Nat) : Int) l.length).length c64) M68, ttV 40 (.bool true) M83, ttV 52 (i64 (modesI (adjM n l) ((i : Nat) : Int))) M99, ttV 58 (i64 (modesI (adjM n l) ((i : Nat) : Int))) M115, ttF 63, .blk 66 [7, 11, 12, 13, 14, 15] .normal (fr [(7, (pt q 0)), (11, (pt ab 0)), (12, (pt bb 0)), (13, (i64 s)), (14, (i64 (((i : Nat) : Int))))]) M129] [7, 11, 12, 13, 14] = some (.normal, [some (pt q 0), some (pt ab 0), some (pt bb 0), some (i64 s), some (i64 (IntKind.wrap .i64 ((((i : Nat) : Int)) + (1 : Int))))], M129, [qL 3 q 0 M (i64 (((n : Nat) : Int))), qT (decide ((((i : Nat) : Int)) < (((n : Nat) : Int)))), qC 13 [(pt ab 0), (i64 (((i : Nat) : Int)))] M (.slice a1 (refRow .fr l ((i : Nat) : Int) l.length).length c2) M6, qC 14 [(pt bb 0), (i64 (((i : Nat) : Int)))] M6 (.slice a16 (refRow .fr l ((i : Nat) : Int) l.length).length c17) M21, qC 20 [(.slice a1 (refRow .fr l ((i : Nat) : Int) l.length).length c2), (.slice a16 (refRow .fr l ((i : Nat) : Int) l.length).length c17)] M21 (.bool true) M34, qC 14 [(pt ab 0), (i64 (((i : Nat) : Int)))] M34 (.slice a46 (refRow .to l ((i : Nat) : Int) l.length).length c47) M51, qC 13 [(pt bb 0), (i64 (((i : Nat) : Int)))] M51 (.slice a63 (refRow .to l ((i : Nat) : Int) l.length).length c64) M68, qC 20 [(.slice a46 (refRow .to l ((i : Nat) : Int) l.length).length c47), (.slice a63 (refRow .to l ((i : Nat) : Int) l.length).length c64)] M68 (.bool true) M83, qC 18 [(pt ab 0), (i64 (((i : Nat) : Int)))] M83 (i64 (modesI (adjM n l) ((i : Nat) : Int))) M99, qC 18 [(pt bb 0), (i64 (((i : Nat) : Int)))] M99 (i64 (modesI (adjM n l) ((i : Nat) : Int))) M115, qF (!((modesI (adjM n l) ((i : Nat) : Int)) == (modesI (adjM n l) ((i : Nat) : Int)))), .blk 4 (.loop (q7.loopAt 4)) Try.f7.ntmps [7, 11, 12, 13, 14, 15] [some (pt q 0), some (pt ab 0), some (pt bb 0), some (i64 s), some (i64 (((i : Nat) : Int))), some (i64 0)] M115 .normal (fr [(7, (pt q 0)), (11, (pt ab 0)), (12, (pt bb 0)), (13, (i64 s)), (14, (i64 (((i : Nat) : Int))))]) M129]) := by kernel_rfl
theorem r7o (q ab bb n i : Nat) (s : Int) (VE : Value) (l : List E4) {M M0 : Mem} (hM : MemOk M) (X0 : Ext M0 M) (gq : M.get q = some ⟨[i64 ((n : Nat) : Int), VE], 26, 2, 0, true⟩) (hA_ : pAdj 48 (adjM n l) (pt ab 0) M0) (hB_ : pAdj 48 (adjM n (turnL l)) (pt bb 0) M0) (hckA : chkN ((n : Nat) : Int) l = true) (hckB : chkN ((n : Nat) : Int) (turnL l) = true) (hn60 : n ≤ 60) (cc0 : (decide ((((i : Nat) : Int)) < (((n : Nat) : Int)))) = true) : ∃ T1 M', Rd Try.prog [] (q7.loopAt 2) Try.f7.ntmps (fr [(7, (pt q 0)), (11, (pt ab 0)), (12, (pt bb 0)), (13, (i64 s)), (14, (i64 (((i : Nat) : Int))))]) M .normal T1 M' ∧ [7, 11, 12, 13, 14].map T1.get = [some (pt q 0), some (pt ab 0), some (pt bb 0), some (i64 s), some (i64 (IntKind.wrap .i64 ((((i : Nat) : Int)) + (1 : Int))))] ∧ Ext M0 M' ∧ MemOk M' ∧ M'.get q = some ⟨[(i64 (((n : Nat) : Int))), VE], 26, 2, 0, true⟩ := by
  obtain ⟨w4, N5, M6, p7, l8, e9, E10, hM11, F12⟩ := call_fc (x := ((adjM n l), ((i : Nat) : Int))) hM con13 (⟨⟨_, _, rfl, AP.Ext (R := (pAdj 48)) hA_ X0, rfl⟩, okA_adjM hckA⟩)
  have nx13 := E10.next
  have g14 := E10.old gq
  have G3 : pInts (refRow .fr l ((i : Nat) : Int) l.length) w4 M6 := by rw [← out_eq hckA ⟨by omega, by simp at cc0; omega⟩]; exact newR.out (R := pInts) F12
  obtain ⟨a1, c2, ew4⟩ := GRowsAt.form G3
  subst ew4
  have X15 := X0.trans E10
  obtain ⟨w19, N20, M21, p22, l23, e24, E25, hM26, F27⟩ := call_fc (x := ((adjM n (turnL l)), ((i : Nat) : Int))) hM11 con14 (⟨⟨_, _, rfl, AP.Ext (R := (pAdj 48)) hB_ X15, rfl⟩, okA_adjM hckB⟩)
  have nx28 := E25.next
  have F29 := AP.Ext (R := pInts) G3 E25
  have g30 := E25.old g14
  have G18 : pInts (refRow .fr l ((i : Nat) : Int) l.length) w19 M21 := by rw [show refRow .fr l ((i : Nat) : Int) l.length = refRow .to (turnL l) ((i : Nat) : Int) (turnL l).length from (turn_row .to l ((i : Nat) : Int)).symm]; rw [← in_eq hckB ⟨by omega, by simp at cc0; omega⟩]; exact newR.out (R := pInts) F27
  obtain ⟨a16, c17, ew19⟩ := GRowsAt.form G18
  subst ew19
  have X31 := X15.trans E25
  obtain ⟨w32, N33, M34, p35, l36, e37, E38, hM39, F40⟩ := call_fc (x := ((refRow .fr l ((i : Nat) : Int) l.length), (refRow .fr l ((i : Nat) : Int) l.length))) hM26 con20 (⟨_, _, rfl, F29, G18⟩)
  have nx41 := E38.next
  have F42 := AP.Ext (R := pInts) F29 E38
  have F43 := AP.Ext (R := pInts) G18 E38
  have g44 := E38.old g30
  have ew32 : w32 = .bool true := (show w32 = .bool (decide ((refRow .fr l ((i : Nat) : Int) l.length) = (refRow .fr l ((i : Nat) : Int) l.length))) from F40).trans (congrArg Value.bool (decide_eq_true rfl))
  subst ew32
  have X45 := X31.trans E38
  obtain ⟨w49, N50, M51, p52, l53, e54, E55, hM56, F57⟩ := call_fc (x := ((adjM n l), ((i : Nat) : Int))) hM39 con14 (⟨⟨_, _, rfl, AP.Ext (R := (pAdj 48)) hA_ X45, rfl⟩, okA_adjM hckA⟩)
  have nx58 := E55.next
  have F59 := AP.Ext (R := pInts) F42 E55
  have F60 := AP.Ext (R := pInts) F43 E55
  have g61 := E55.old g44
  have G48 : pInts (refRow .to l ((i : Nat) : Int) l.length) w49 M51 := by rw [← in_eq hckA ⟨by omega, by simp at cc0; omega⟩]; exact newR.out (R := pInts) F57
  obtain ⟨a46, c47, ew49⟩ := GRowsAt.form G48
  subst ew49
  have X62 := X45.trans E55
  obtain ⟨w66, N67, M68, p69, l70, e71, E72, hM73, F74⟩ := call_fc (x := ((adjM n (turnL l)), ((i : Nat) : Int))) hM56 con13 (⟨⟨_, _, rfl, AP.Ext (R := (pAdj 48)) hB_ X62, rfl⟩, okA_adjM hckB⟩)
  have nx75 := E72.next
  have F76 := AP.Ext (R := pInts) F59 E72
  have F77 := AP.Ext (R := pInts) F60 E72
  have F78 := AP.Ext (R := pInts) G48 E72
  have g79 := E72.old g61
  have G65 : pInts (refRow .to l ((i : Nat) : Int) l.length) w66 M68 := by rw [show refRow .to l ((i : Nat) : Int) l.length = refRow .fr (turnL l) ((i : Nat) : Int) (turnL l).length from (turn_row .fr l ((i : Nat) : Int)).symm]; rw [← out_eq hckB ⟨by omega, by simp at cc0; omega⟩]; exact newR.out (R := pInts) F74
  obtain ⟨a63, c64, ew66⟩ := GRowsAt.form G65
  subst ew66
  have X80 := X62.trans E72
  obtain ⟨w81, N82, M83, p84, l85, e86, E87, hM88, F89⟩ := call_fc (x := ((refRow .to l ((i : Nat) : Int) l.length), (refRow .to l ((i : Nat) : Int) l.length))) hM73 con20 (⟨_, _, rfl, F78, G65⟩)
  have nx90 := E87.next
  have F91 := AP.Ext (R := pInts) F76 E87
  have F92 := AP.Ext (R := pInts) F77 E87
  have F93 := AP.Ext (R := pInts) F78 E87
  have F94 := AP.Ext (R := pInts) G65 E87
  have g95 := E87.old g79
  have ew81 : w81 = .bool true := (show w81 = .bool (decide ((refRow .to l ((i : Nat) : Int) l.length) = (refRow .to l ((i : Nat) : Int) l.length))) from F89).trans (congrArg Value.bool (decide_eq_true rfl))
  subst ew81
  have X96 := X80.trans E87
  obtain ⟨w97, N98, M99, p100, l101, e102, E103, hM104, F105⟩ := call_fc (x := ((adjM n l), ((i : Nat) : Int))) hM88 con18 (⟨⟨_, _, rfl, AP.Ext (R := (pAdj 48)) hA_ X96, rfl⟩, okA_adjM hckA⟩)
  have nx106 := E103.next
  have F107 := AP.Ext (R := pInts) F91 E103
  have F108 := AP.Ext (R := pInts) F92 E103
  have F109 := AP.Ext (R := pInts) F93 E103
  have F110 := AP.Ext (R := pInts) F94 E103
  have g111 := E103.old g95
  have ew97 : w97 = (i64 (modesI (adjM n l) ((i : Nat) : Int))) := F105
  subst ew97
  have X112 := X96.trans E103
  obtain ⟨w113, N114, M115, p116, l117, e118, E119, hM120, F121⟩ := call_fc (x := ((adjM n (turnL l)), ((i : Nat) : Int))) hM104 con18 (⟨⟨_, _, rfl, AP.Ext (R := (pAdj 48)) hB_ X112, rfl⟩, okA_adjM hckB⟩)
  have nx122 := E119.next
  have F123 := AP.Ext (R := pInts) F107 E119
  have F124 := AP.Ext (R := pInts) F108 E119
  have F125 := AP.Ext (R := pInts) F109 E119
  have F126 := AP.Ext (R := pInts) F110 E119
  have g127 := E119.old g111
  have ew113 : w113 = (i64 (modesI (adjM n l) ((i : Nat) : Int))) := (show w113 = i64 (modesI (adjM n (turnL l)) ((i : Nat) : Int)) from F121).trans (congrArg i64 (turn_modesI hckA ⟨by omega, by simp at cc0; omega⟩))
  subst ew113
  have X128 := X112.trans E119
  obtain ⟨M129, hL130, E131, hM132⟩ := loop7i hM120 g127 (AP.Ext (R := (pAdj 48)) hA_ X128) (AP.Ext (R := (pAdj 48)) hB_ X128) hckA hn60
  have nx133 := E131.next
  have F134 := AP.Ext (R := pInts) F123 E131
  have F135 := AP.Ext (R := pInts) F124 E131
  have F136 := AP.Ext (R := pInts) F125 E131
  have F137 := AP.Ext (R := pInts) F126 E131
  have g138 := E131.old g127
  have X139 := X128.trans E131
  have hraw := r7o_raw q ab bb n i s VE l M  a1 c2 M6 a16 c17 M21 M34 a46 c47 M51 a63 c64 M68 M83 M99 M115 M129
  obtain ⟨T1, h1, h2⟩ := Rd.told noNumP mixedP (fun B => specsB_ok (hS7_13_14_18_20 B) (k := [(4, bone (.loop (q7.loopAt 4)) Try.f7.ntmps [7, 11, 12, 13, 14, 15] [some (pt q 0), some (pt ab 0), some (pt bb 0), some (i64 s), some (i64 (((i : Nat) : Int))), some (i64 0)] M115 .normal (fr [(7, (pt q 0)), (11, (pt ab 0)), (12, (pt bb 0)), (13, (i64 s)), (14, (i64 (((i : Nat) : Int))))]) M129)]) (fun p hp => by simp only [List.mem_cons, List.not_mem_nil, or_false] at hp; rcases hp with rfl <;> first | exact BlkOk.loop noNumP mixedP hL130)) (fun _ h => blksF_one h) hraw (hk (lC dC3 gq rfl) (hk (bT cc0) (hk (q_call rfl p7 l8 e9) (hk (q_call rfl p22 l23 e24) (hk (q_call rfl p35 l36 e37) (hk (q_call rfl p52 l53 e54) (hk (q_call rfl p69 l70 e71) (hk (q_call rfl p84 l85 e86) (hk (q_call rfl p100 l101 e102) (hk (q_call rfl p116 l117 e118) (hk (bF (by first | simp_all | (simp; omega))) (hk (q_blk rfl) hn))))))))))))
  exact ⟨T1, M129, h1, h2, X139, hM132, g138⟩
theorem r7ox_raw (q ab bb n i : Nat) (s : Int) (VE : Value) (l : List E4) (M : Mem)  : oR Try.prog [] 60 Try.f7 (q7.loopAt 2) [(7, (pt q 0)), (11, (pt ab 0)), (12, (pt bb 0)), (13, (i64 s)), (14, (i64 (((i : Nat) : Int))))] M [ttL 5 (i64 (((n : Nat) : Int))), ttF 8] [] = some ((.exit 2), [], M, [qL 3 q 0 M (i64 (((n : Nat) : Int))), qF (decide ((((i : Nat) : Int)) < (((n : Nat) : Int))))]) := by kernel_rfl
theorem r7ox (q ab bb n i : Nat) (s : Int) (VE : Value) (l : List E4) {M : Mem} (gq : M.get q = some ⟨[i64 ((n : Nat) : Int), VE], 26, 2, 0, true⟩) (cc0 : (decide ((((i : Nat) : Int)) < (((n : Nat) : Int)))) = false) : ∃ T1, Rd Try.prog [] (q7.loopAt 2) Try.f7.ntmps (fr [(7, (pt q 0)), (11, (pt ab 0)), (12, (pt bb 0)), (13, (i64 s)), (14, (i64 (((i : Nat) : Int))))]) M (.exit 2) T1 M ∧ [].map T1.get = [] := by
  have hraw := r7ox_raw q ab bb n i s VE l M  
  obtain ⟨T1, h1, h2⟩ := Rd.told noNumP mixedP (specs_none Try.prog) (fun _ _ => rfl) hraw (hk (lC dC3 gq rfl) (hk (bF cc0) hn))
  exact ⟨T1, h1, h2⟩
theorem loop7o {q ab bb n : Nat} {s : Int} {VE : Value} {l : List E4} {M : Mem} (hM : MemOk M) (gq : M.get q = some ⟨[i64 ((n : Nat) : Int), VE], 26, 2, 0, true⟩) (hA_ : pAdj 48 (adjM n l) (pt ab 0) M) (hB_ : pAdj 48 (adjM n (turnL l)) (pt bb 0) M) (hckA : chkN ((n : Nat) : Int) l = true) (hn60 : n ≤ 60) :
    ∃ M', LoopR Try.prog [] (q7.loopAt 2) Try.f7.ntmps (fr [(7, pt q 0), (11, pt ab 0), (12, pt bb 0), (13, i64 s), (14, i64 ((0 : Nat) : Int))]) M (.exit 2) (fr []) M' ∧ Ext M M' ∧ MemOk M' := by
  obtain ⟨_, M', h1, h2, h3, _⟩ := LoopR.for (P := Try.prog) (GL := []) (b := q7.loopAt 2) (nt := Try.f7.ntmps) (id := 2) (σ := Unit) (n := n) (Inv := fun _ _ M1 => Ext M M1 ∧ MemOk M1 ∧ M1.get q = some ⟨[i64 ((n : Nat) : Int), VE], 26, 2, 0, true⟩)
    (F := fun i _ => [(7, pt q 0), (11, pt ab 0), (12, pt bb 0), (13, i64 s), (14, i64 ((i : Nat) : Int))]) (O := fun _ => [])
    (by
      rintro i _ M1 hi ⟨X1, hM1, hg⟩
      obtain ⟨T1, M2, h1, h2, h3, h4, h5⟩ := r7o q ab bb n i s VE l hM1 X1 hg hA_ hB_ hckA (turn_chk hckA) hn60 (decide_eq_true (by omega))
      rw [wrap_succ (by omega)] at h2
      exact ⟨(), T1, M2, h1, h2, h3, h4, h5⟩)
    (by
      rintro _ M1 ⟨X1, hM1, hg⟩
      exact r7ox q ab bb n n s VE l (M := M1) hg (decide_eq_false (by omega)))
    n 0 (by omega) (s := ()) (M := M) ⟨Ext.refl M, hM, gq⟩
  exact ⟨M', h1, h2, h3⟩
theorem rK7 : Try.f7.results = #[.tmp 6] := by kernel_rfl
theorem hS7_10_11_12_15 (B : Bd) : ∀ p ∈ ([(10, pick (Con Try.prog [] 10 Q10)), (11, pick (Con Try.prog [] 11 Q11)), (12, pick (Con Try.prog [] 12 Q12)), (15, pick (Con Try.prog [] 15 Q15))] : List (FuncId × (List Value → Mem → Option (Value × Mem)))), SpecOk Try.prog [] B p.1 p.2 := (fun p hp => by simp only [List.mem_cons, List.not_mem_nil, or_false] at hp; rcases hp with rfl | rfl | rfl | rfl <;> first | exact Con.ok _ | exact TC.ok _)
theorem w7_raw (size : Int) (ans : Option Addr) (cns : Nat) (ns : List Int) (set : Int) (M : Mem) (M3 : Mem) (a12 : Option Addr) (c13 : Nat) (M18 : Mem) (b27 : Nat) (M28 : Mem) (M37 : Mem) (b45 : Nat) (M46 : Mem) (M56 : Mem) (aS65 : Option Addr) (cS66 : Nat) (M67 : Mem) (ab90 : Nat) (M94 : Mem) (ab108 : Nat) (M112 : Mem) (M139 : Mem) (M154 : Mem) : oT Try.prog [0, 2] 120 Try.f7 q7 [(i64 size), (.slice ans ns.length cns), (i64 set)] M [ttV 3 (.bool true) M3, ttV 12 (.agg ⟨[(i64 ((((nMk size) : Nat) : Int))), (.slice a12 (mkL size ns 2).length c13)]⟩) M18, ttV 14 (pt b27 0) M28, ttS 16 M37, ttL 20 (i64 ((((nMk size) : Nat) : Int))), ttV 24 (pt b45 0) M46, ttS 26 M56, .blk 29 [2, 7, 8, 9] .normal (fr [(2, (i64 set)), (7, (pt b27 0)), (8, (pt b45 0))]) M67, ttL 31 (.agg ⟨[(i64 ((((nMk size) : Nat) : Int))), (.slice a12 (mkL size ns 2).length c13)]⟩), ttV 33 (pt ab90 0) M94, ttL 35 (.agg ⟨[(i64 ((((nMk size) : Nat) : Int))), (.slice aS65 (turnL (mkL size ns 2)).length cS66)]⟩), ttV 37 (pt ab108 0) M112, ttV 58 (i64 (modI set (32 : Int))) M139, .blk 63 [7, 11, 12, 13, 14] .normal (fr []) M154] 6 = some (.ret, some (.bool true), M154, [qC 10 [] M (.bool true) M3, qC 11 [(i64 size), (.slice ans ns.length cns), (i64 2)] M3 (.agg ⟨[(i64 ((((nMk size) : Nat) : Int))), (.slice a12 (mkL size ns 2).length c13)]⟩) M18, .eq (aalloc Try.prog 26 M18) (1, .val (pt b27 0), M28), qS 26 b27 0 (.agg ⟨[(i64 ((((nMk size) : Nat) : Int))), (.slice a12 (mkL size ns 2).length c13)]⟩) M28 M37, qL 3 b27 0 M37 (i64 ((((nMk size) : Nat) : Int))), .eq (aalloc Try.prog 26 M37) (1, .val (pt b45 0), M46), qS 26 b45 0 (.agg ⟨[(i64 ((((nMk size) : Nat) : Int))), sln]⟩) M46 M56, .blk 0 (.loop (q7.loopAt 0)) Try.f7.ntmps [2, 7, 8, 9] [some (i64 set), some (pt b27 0), some (pt b45 0), some (i64 0)] M56 .normal (fr [(2, (i64 set)), (7, (pt b27 0)), (8, (pt b45 0))]) M67, qL 26 b27 0 (Mem.mk M67.blks M67.next M67.hide []) (.agg ⟨[(i64 ((((nMk size) : Nat) : Int))), (.slice a12 (mkL size ns 2).length c13)]⟩), qC 12 [(.agg ⟨[(i64 ((((nMk size) : Nat) : Int))), (.slice a12 (mkL size ns 2).length c13)]⟩)] (Mem.mk M67.blks M67.next M67.hide []) (pt ab90 0) M94, qL 26 b45 0 (Mem.mk M94.blks M94.next (hides 0 [⟨1, 1, M67.next, M94.next⟩, ⟨0, 1, M67.next, M67.next⟩] ++ M67.hide) M94.log) (.agg ⟨[(i64 ((((nMk size) : Nat) : Int))), (.slice aS65 (turnL (mkL size ns 2)).length cS66)]⟩), qT (Nat.blt b45 M67.next), qC 12 [(.agg ⟨[(i64 ((((nMk size) : Nat) : Int))), (.slice aS65 (turnL (mkL size ns 2)).length cS66)]⟩)] (Mem.mk M94.blks M94.next M67.hide M94.log) (pt ab108 0) M112, qT (apartN [b45] M112.log), qC 15 [(i64 set), (i64 32)] (Mem.mk M112.blks M112.next M67.hide (M112.log ++ M67.log)) (i64 (modI set (32 : Int))) M139, .blk 2 (.loop (q7.loopAt 2)) Try.f7.ntmps [7, 11, 12, 13, 14] [some (pt b27 0), some (pt ab90 0), some (pt ab108 0), some (i64 (modI set (32 : Int))), some (i64 0)] M139 .normal (fr []) M154]) := by kernel_rfl
theorem w7 (size : Int) (ans : Option Addr) (cns : Nat) (ns : List Int) (set : Int) {M : Mem} (hM : MemOk M) (hns : pInts ns (.slice ans ns.length cns) M) : ∃ v_ M', Ev Try.prog [] 7 [(i64 size), (.slice ans ns.length cns), (i64 set)] M v_ M' ∧ Ext M M' ∧ MemOk M' ∧ v_ = .bool true := by
  obtain ⟨w1, N2, M3, p4, l5, e6, E7, hM8, F9⟩ := call_fc (x := ()) hM con10 (rfl)
  have nx10 := E7.next
  have ew1 : w1 = (.bool true) := F9
  subst ew1
  have X11 := (Ext.refl M).trans E7
  obtain ⟨w16, N17, M18, p19, l20, e21, E22, hM23, F24⟩ := call_fc (x := (size, ns, 2)) hM8 con11 (⟨_, _, _, rfl, rfl, AP.Ext (R := pInts) hns X11, rfl⟩)
  have nx25 := E22.next
  obtain ⟨L15, ew16, G14⟩ : pNetN ((nMk size), (mkL size ns 2)) w16 (hidx [(0, M3.next)] M18) := hx_of F24
  simp only at ew16 G14
  obtain ⟨a12, c13, eL15⟩ := GRowsAt.form G14
  subst eL15
  subst ew16
  have X26 := X11.trans E22
  obtain ⟨b27, M28, eb29, em30, g31, E32, hM33⟩ := new_t hM23 ⟨[(i64 0), sln], 26, 2, 0, true⟩
  have nb27 : M.next ≤ b27 := by rw [← eb29]; exact X26.next
  have F34 := hx_new (R := pEdges) G14 eb29 E32
  have nx35 := E32.next
  have X36 := X26.trans E32
  obtain ⟨M37, q38, g39, kp40, X41, hM42, nx43⟩ := store_t (o := 0) (v := (.agg ⟨[(i64 ((((nMk size) : Nat) : Int))), (.slice a12 (mkL size ns 2).length c13)]⟩)) (new := [(i64 ((((nMk size) : Nat) : Int))), (.slice a12 (mkL size ns 2).length c13)]) X36 nb27 hM33 dS26 g31 rfl rfl (Nat.zero_le _) (Nat.le_of_ble_eq_true rfl) rfl
  replace g39 : M37.get b27 = some ⟨[(i64 ((((nMk size) : Nat) : Int))), (.slice a12 (mkL size ns 2).length c13)], 26, 2, 0, true⟩ := g39
  have F44 := hx_keep (R := pEdges) F34 (fun id h _ => kp40 id h) (by intro id hh; simp only [hidden_con] at hh; omega)
  obtain ⟨b45, M46, eb47, em48, g49, E50, hM51⟩ := new_t hM42 ⟨[(i64 0), sln], 26, 2, 0, true⟩
  have nb45 : M.next ≤ b45 := by rw [← eb47]; exact X41.next
  have db27b45 : b27 ≠ b45 := by have := Mem.lt_of_get g39; omega
  have F52 := hx_new (R := pEdges) F44 eb47 E50
  have g53 := E50.old g39
  have nx54 := E50.next
  have X55 := X41.trans E50
  obtain ⟨M56, q57, g58, kp59, X60, hM61, nx62⟩ := store_t (o := 0) (v := (.agg ⟨[(i64 ((((nMk size) : Nat) : Int))), sln]⟩)) (new := [(i64 ((((nMk size) : Nat) : Int))), sln]) X55 nb45 hM51 dS26 g49 rfl rfl (Nat.zero_le _) (Nat.le_of_ble_eq_true rfl) rfl
  replace g58 : M56.get b45 = some ⟨[(i64 ((((nMk size) : Nat) : Int))), sln], 26, 2, 0, true⟩ := g58
  have F63 := hx_keep (R := pEdges) F52 (fun id h _ => kp59 id h) (by intro id hh; simp only [hidden_con] at hh; omega)
  have g64 := (kp59 _ db27b45).trans g53
  obtain ⟨Ms76, q77, _, _, E78, _, _⟩ := store_t (o := 0) (v := (.agg ⟨[(i64 ((((nMk size) : Nat) : Int))), sln]⟩)) (new := [(i64 ((((nMk size) : Nat) : Int))), sln]) E50 (Nat.le_of_eq eb47) hM51 dS26 g49 rfl rfl (Nat.zero_le _) (Nat.le_of_ble_eq_true rfl) rfl
  rw [Option.some.inj (q77.symm.trans q57)] at E78
  obtain ⟨M67, hL68, X69, hM70, gq71, sv75, gs72, A73⟩ := loop7a (set := set) hM61 E78 (hx_out (R := pEdges) F44) (Nat.le_of_eq eb47) g58 g64 (Ne.symm db27b45) (chkN_spec (mk_chk _ _ _)).2.2.1
  have G74 : pEdges (turnL (mkL size ns 2)) sv75 (hidx [(0, M37.next)] M67) := hx_of (acc_newE A73 (by rw [turnL_len]; have := (chkN_spec (mk_chk size ns 2)).2.2.1; omega))
  obtain ⟨aS65, cS66, esv75⟩ := GRowsAt.form G74
  subst esv75
  have db27b45_ := db27b45
  have F79 := hx_ext (R := pEdges) F44 X69
  have X80 := (X41).trans X69
  obtain ⟨R81, eR82⟩ : ∃ m : Mem, m = Mem.mk M67.blks M67.next M67.hide [] := ⟨_, rfl⟩
  have X83 : Ext (Mem.mk M.blks M.next M.hide []) R81 := by rw [eR82]; exact Ext.aside (X80)
  have lg84 : R81.log = [] := by rw [eR82]
  have nxR81 : R81.next = M67.next := by rw [eR82]
  have hM85 : MemOk R81 := by rw [eR82]; exact MemOk.log hM70
  have ltb27M67 : b27 < M67.next := by have h := Mem.lt_of_get gq71; exact h
  have g86 : R81.get b27 = some ⟨[(i64 ((((nMk size) : Nat) : Int))), (.slice a12 (mkL size ns 2).length c13)], 26, 2, 0, true⟩ := by rw [eR82]; exact gq71
  have ltb45M67 : b45 < M67.next := by have h := Mem.lt_of_get gs72; exact h
  have g87 : R81.get b45 = some ⟨[(i64 ((((nMk size) : Nat) : Int))), (.slice aS65 (turnL (mkL size ns 2)).length cS66)], 26, 2, 0, true⟩ := by rw [eR82]; exact gs72
  have F88 := hx_still (R := pEdges) (M' := R81) F79 (fun id b h => by rw [eR82]; exact h)
  have F89 := hx_still (R := pEdges) (M' := R81) G74 (fun id b h => by rw [eR82]; exact h)
  obtain ⟨w92, N93, M94, p95, l96, e97, E98, hM99, F100⟩ := call_fc (x := ((nMk size), (mkL size ns 2))) hM85 con12 (⟨⟨_, rfl, _, rfl, hx_out (R := pEdges) F88⟩, mk_chk size ns 2⟩)
  have nx101 := E98.next
  have F102 := hx_ext (R := pEdges) F88 E98
  have F103 := hx_ext (R := pEdges) F89 E98
  have g104 := E98.old g86
  have g105 := E98.old g87
  have G91 : pAdj 48 (adjM (nMk size) (mkL size ns 2)) w92 (hidx [(0, R81.next)] M94) := hx_of F100
  obtain ⟨ab90, _, _, _, _, ew92, _⟩ := id G91
  subst ew92
  have lg106 : M94.log = [] := by rw [← e97]; exact lg84
  have X107 := X83.trans E98
  obtain ⟨w110, N111, M112, p113, l114, e115, E116, hM117, F118⟩ := call_fc (x := ((nMk size), (turnL (mkL size ns 2)))) hM99 con12 (⟨⟨_, rfl, _, rfl, hx_out (R := pEdges) F103⟩, turn_chk (mk_chk size ns 2)⟩)
  have nx119 := E116.next
  have F120 := hx_ext (R := pEdges) F102 E116
  have F121 := hx_ext (R := pEdges) F103 E116
  have F122 := hx_ext (R := (pAdj 48)) G91 E116
  have g123 := E116.old g104
  have g124 := E116.old g105
  have G109 : pAdj 48 (adjM (nMk size) (turnL (mkL size ns 2))) w110 (hidx [(0, M94.next)] M112) := hx_of F118
  obtain ⟨ab108, _, _, _, _, ew110, _⟩ := id G109
  subst ew110
  have lg125 : M112.log = [] := by rw [← e115]; exact lg106
  have X126 := X107.trans E116
  obtain ⟨M127, ef128⟩ : ∃ m : Mem, m = (Mem.mk M112.blks M112.next M112.hide (M112.log ++ M67.log)) := ⟨_, rfl⟩
  have X129 : Ext M M127 := by rw [ef128]; exact Ext.join (X80) (X126)
  have hM130 : MemOk M127 := by rw [ef128]; exact hM117
  have g131 : M127.get b27 = some ⟨[(i64 ((((nMk size) : Nat) : Int))), (.slice a12 (mkL size ns 2).length c13)], 26, 2, 0, true⟩ := by rw [ef128]; exact g123
  have g132 : M127.get b45 = some ⟨[(i64 ((((nMk size) : Nat) : Int))), (.slice aS65 (turnL (mkL size ns 2)).length cS66)], 26, 2, 0, true⟩ := by rw [ef128]; exact g124
  have F133 := hx_still (R := pEdges) (M' := M127) F120 (fun id b h => by rw [ef128]; exact h)
  have F134 := hx_still (R := pEdges) (M' := M127) F121 (fun id b h => by rw [ef128]; exact h)
  have F135 := hx_still (R := (pAdj 48)) (M' := M127) F122 (fun id b h => by rw [ef128]; exact h)
  have F136 := hx_still (R := (pAdj 48)) (M' := M127) G109 (fun id b h => by rw [ef128]; exact h)
  obtain ⟨w137, N138, M139, p140, l141, e142, E143, hM144, F145⟩ := call_fc (x := (set, (32 : Int))) hM130 con15 (⟨⟨_, _, rfl, rfl, rfl⟩, rfl⟩)
  have nx146 := E143.next
  have F147 := hx_ext (R := pEdges) F133 E143
  have F148 := hx_ext (R := pEdges) F134 E143
  have F149 := hx_ext (R := (pAdj 48)) F135 E143
  have F150 := hx_ext (R := (pAdj 48)) F136 E143
  have g151 := E143.old g131
  have g152 := E143.old g132
  have ew137 : w137 = (i64 (modI set (32 : Int))) := F145
  subst ew137
  have X153 := X129.trans E143
  obtain ⟨M154, hL155, E156, hM157⟩ := loop7o hM144 g151 (hx_out (R := pAdj 48) F149) (hx_out (R := pAdj 48) F150) (mk_chk size ns 2) (by have := nMk_range size; omega)
  have nx158 := E156.next
  have F159 := hx_ext (R := pEdges) F147 E156
  have F160 := hx_ext (R := pEdges) F148 E156
  have F161 := hx_ext (R := (pAdj 48)) F149 E156
  have F162 := hx_ext (R := (pAdj 48)) F150 E156
  have g163 := E156.old g151
  have g164 := E156.old g152
  have X165 := X153.trans E156
  have hraw := w7_raw size ans cns ns set M  M3 a12 c13 M18 b27 M28 M37 b45 M46 M56 aS65 cS66 M67 ab90 M94 ab108 M112 M139 M154
  have rw0 : Mem.mk M67.blks M67.next M67.hide [] = R81 := eR82.symm
  have rw1 : Mem.mk M94.blks M94.next M67.hide M94.log = M94 := by rw [(show M67.hide = M94.hide from ((X80).hide.trans (X107).hide.symm))]
  have rw2 : Mem.mk M94.blks M94.next (hides 0 [⟨1, 1, M67.next, M94.next⟩, ⟨0, 1, M67.next, M67.next⟩] ++ M67.hide) M94.log = hidx (hides 0 [⟨1, 1, M67.next, M94.next⟩, ⟨0, 1, M67.next, M67.next⟩]) M94 := by rw [(show M67.hide = M94.hide from ((X80).hide.trans (X107).hide.symm))]; rfl
  have rw3 : Mem.mk M112.blks M112.next M67.hide M112.log = M112 := by rw [(show M67.hide = M112.hide from ((X80).hide.trans (X126).hide.symm))]
  have rw4 : (Mem.mk M112.blks M112.next M67.hide (M112.log ++ M67.log)) = (Mem.mk M112.blks M112.next M112.hide (M112.log ++ M67.log)) := by rw [(show M67.hide = M112.hide from ((X80).hide.trans (X126).hide.symm))]
  have rw5 : (Mem.mk M112.blks M112.next M112.hide (M112.log ++ M67.log)) = M127 := ef128.symm
  try rw [rw0] at hraw
  try rw [rw1] at hraw
  try rw [rw2] at hraw
  try rw [rw3] at hraw
  try rw [rw4] at hraw
  try rw [rw5] at hraw
  exact ⟨(.bool true), M154, Ev.told_tmp noNumP mixedP Try.func7 q7_ok (by kernel_rfl) rK7 (fun B => specsB_ok (hS7_10_11_12_15 B) (k := [(0, bone (.loop (q7.loopAt 0)) Try.f7.ntmps [2, 7, 8, 9] [some (i64 set), some (pt b27 0), some (pt b45 0), some (i64 0)] M56 .normal (fr [(2, (i64 set)), (7, (pt b27 0)), (8, (pt b45 0))]) M67), (2, bone (.loop (q7.loopAt 2)) Try.f7.ntmps [7, 11, 12, 13, 14] [some (pt b27 0), some (pt ab90 0), some (pt ab108 0), some (i64 (modI set (32 : Int))), some (i64 0)] M139 .normal (fr []) M154)]) (fun p hp => by simp only [List.mem_cons, List.not_mem_nil, or_false] at hp; rcases hp with rfl | rfl <;> first | exact BlkOk.loop noNumP mixedP hL68 | exact BlkOk.loop noNumP mixedP hL155)) (fun _ h => blksF_two h) hraw (hk (q_call rfl p4 l5 e6) (hk (q_call rfl p19 l20 e21) (hk (q_eq (by rw [← eb29, ← em30]; kernel_rfl) Nat.one_ne_zero) (hk (q_st q38) (hk (lC dC3 g39 rfl) (hk (q_eq (by rw [← eb47, ← em48]; kernel_rfl) Nat.one_ne_zero) (hk (q_st q57) (hk (q_blk rfl) (hk (lA ⟨dA26, dS26⟩ g86 rfl) (hk (q_call rfl p95 l96 e97) (hk (lA ⟨dA26, dS26⟩ (hidx_get.2 ⟨hides_low (by simp; omega), g105⟩) rfl) (hk (q_lt ltb45M67) (hk (q_call rfl p113 l114 e115) (hk (q_apart (by rw [lg125]; simp <;> omega)) (hk (q_call rfl p140 l141 e142) (hk (q_blk rfl) hn)))))))))))))))), X165, hM157, rfl⟩
end Go.Proofs.Ytipnhelkganmdaa
