/-
  Package order: each of its laws for every argument; no conditions. The last text states which.
-/
import Derived.Test.YtfeabmmgmbddnaaOP9
open Go Go.Am Go.Proofs
namespace Go.Proofs.Ytfeabmmgmbddnaa
set_option maxRecDepth 100000
set_option linter.unusedVariables false
set_option linter.unusedSimpArgs false
theorem hS24_21 (B : Bd) : ∀ p ∈ ([(21, pick (Con Try.prog [] 21 Q21))] : List (FuncId × (List Value → Mem → Option (Value × Mem)))), SpecOk Try.prog [] B p.1 p.2 := (fun p hp => by simp only [List.mem_cons, List.not_mem_nil, or_false] at hp; rcases hp with rfl <;> first | exact Con.ok _)
theorem r24L_raw (b n ab i : Nat) (S : Value) (ad : AdjM) (M : Mem) (M3 : Mem) : oR Try.prog [] 60 Try.f24 (q24.loopAt 0) [(1, (pt b 0)), (3, S), (6, (i64 (((n : Nat) : Int)))), (7, (i64 (((i : Nat) : Int))))] M [ttT 2, ttL 8 (.agg ⟨[(i64 (((n : Nat) : Int))), (pt ab 0)]⟩), ttV 12 (.bool (linkB ad (((i : Nat) : Int)))) M3, ttF 15] [1, 3, 6, 7] = some (.normal, [some (pt b 0), some S, some (i64 (((n : Nat) : Int))), some (i64 (IntKind.wrap .i64 ((((i : Nat) : Int)) + (1 : Int))))], M3, [qT (decide ((((i : Nat) : Int)) < (((n : Nat) : Int)))), qL 46 b 0 M (.agg ⟨[(i64 (((n : Nat) : Int))), (pt ab 0)]⟩), qC 21 [(.agg ⟨[(i64 (((n : Nat) : Int))), (pt ab 0)]⟩), (i64 (((i : Nat) : Int)))] M (.bool (linkB ad (((i : Nat) : Int)))) M3, qF (!(linkB ad (((i : Nat) : Int))))]) := by kernel_rfl
theorem r24L (b n ab i : Nat) (S : Value) (ad : AdjM) {M M0 : Mem} (hM : MemOk M) (X0 : Ext M0 M) (gb : M.get b = some ⟨[i64 ((n : Nat) : Int), pt ab 0], 46, 2, 0, true⟩) (hadj : pAdj 59 ad (pt ab 0) M0) (hok : okA ad) (cc0 : (decide ((((i : Nat) : Int)) < (((n : Nat) : Int)))) = true) (cc1 : (linkB ad (((i : Nat) : Int))) = true) : ∃ T1 M', Rd Try.prog [] (q24.loopAt 0) Try.f24.ntmps (fr [(1, (pt b 0)), (3, S), (6, (i64 (((n : Nat) : Int)))), (7, (i64 (((i : Nat) : Int))))]) M .normal T1 M' ∧ [1, 3, 6, 7].map T1.get = [some (pt b 0), some S, some (i64 (((n : Nat) : Int))), some (i64 (IntKind.wrap .i64 ((((i : Nat) : Int)) + (1 : Int))))] ∧ Ext M0 M' ∧ MemOk M' ∧ M'.get b = some ⟨[(i64 (((n : Nat) : Int))), (pt ab 0)], 46, 2, 0, true⟩ ∧ ∀ id k, M.get id = some k → id ≠ b → M'.get id = some k := by
  obtain ⟨w1, N2, M3, p4, l5, e6, E7, hM8, F9⟩ := call_fc (x := ((n, ad), (((i : Nat) : Int)))) hM con21 (⟨⟨_, _, rfl, ⟨_, rfl, AP.Ext (R := (pAdj 59)) hadj X0⟩, rfl⟩, hok⟩)
  have g11 := E7.old gb
  have ew1 : w1 = (.bool (linkB ad (((i : Nat) : Int)))) := F9
  subst ew1
  have X12 := X0.trans E7
  have hraw := r24L_raw b n ab i S ad M  M3
  have hkp : ∀ id k, M.get id = some k → id ≠ b → M3.get id = some k := fun id k g h_b => by
    have g0 := Mem.lt_of_get g
    have g := E7.old g
    exact g
  obtain ⟨T1, h1, h2⟩ := Rd.told noNumP mixedP (fun B => specsB_ok (k := []) (hS24_21 B) (fun p hp => by cases hp)) (fun _ _ => rfl) hraw (hk (bT cc0) (hk (lA ⟨dA46, dS46⟩ gb rfl) (hk (q_call rfl p4 l5 e6) (hk (bF (by rw [cc1]; rfl)) hn))))
  exact ⟨T1, M3, h1, h2, X12, hM8, g11, hkp⟩
theorem r24x_raw (b n i : Nat) (S : Value) (M : Mem)  : oR Try.prog [] 60 Try.f24 (q24.loopAt 0) [(1, (pt b 0)), (3, S), (6, (i64 (((n : Nat) : Int)))), (7, (i64 (((i : Nat) : Int))))] M [ttF 2] [3] = some ((.exit 0), [some S], M, [qF (decide ((((i : Nat) : Int)) < (((n : Nat) : Int))))]) := by kernel_rfl
theorem r24x (b n i : Nat) (S : Value) {M : Mem} (cc0 : (decide ((((i : Nat) : Int)) < (((n : Nat) : Int)))) = false) : ∃ T1, Rd Try.prog [] (q24.loopAt 0) Try.f24.ntmps (fr [(1, (pt b 0)), (3, S), (6, (i64 (((n : Nat) : Int)))), (7, (i64 (((i : Nat) : Int))))]) M (.exit 0) T1 M ∧ [3].map T1.get = [some S] := by
  have hraw := r24x_raw b n i S M  
  obtain ⟨T1, h1, h2⟩ := Rd.told noNumP mixedP (specs_none Try.prog) (fun _ _ => rfl) hraw (hk (bF cc0) hn)
  exact ⟨T1, h1, h2⟩
theorem r24N_raw (b n ab i : Nat) (ad : AdjM) (M : Mem) (M3 : Mem) (b13 : Nat) (M14 : Mem) (b23 : Nat) (M24 : Mem) : oR Try.prog [] 60 Try.f24 (q24.loopAt 0) [(1, (pt b 0)), (3, sln), (6, (i64 (((n : Nat) : Int)))), (7, (i64 (((i : Nat) : Int))))] M [ttT 2, ttL 8 (.agg ⟨[(i64 (((n : Nat) : Int))), (pt ab 0)]⟩), ttV 12 (.bool (linkB ad (((i : Nat) : Int)))) M3, ttT 15, ttV 21 (sli b13 0 1 2) M14, .at 23 (1, .val (sli b23 0 1 1), M24)] [1, 3, 6, 7] = some (.normal, [some (pt b 0), some (sli b23 0 1 1), some (i64 (((n : Nat) : Int))), some (i64 (IntKind.wrap .i64 ((((i : Nat) : Int)) + (1 : Int))))], M24, [qT (decide ((((i : Nat) : Int)) < (((n : Nat) : Int)))), qL 46 b 0 M (.agg ⟨[(i64 (((n : Nat) : Int))), (pt ab 0)]⟩), qC 21 [(.agg ⟨[(i64 (((n : Nat) : Int))), (pt ab 0)]⟩), (i64 (((i : Nat) : Int)))] M (.bool (linkB ad (((i : Nat) : Int)))) M3, qT (!(linkB ad (((i : Nat) : Int)))), .eq (abuildSlice Try.prog 22 1 [(0, (i64 (((i : Nat) : Int))))] M3) (1, .val (sli b13 0 1 2), M14), .q (.append [22, 22] sln (sli b13 0 1 2) M14) (1, .val (sli b23 0 1 1), M24)]) := by kernel_rfl
theorem r24N (b n ab i : Nat) (ad : AdjM) {M M0 : Mem} (hM : MemOk M) (X0 : Ext M0 M) (gb : M.get b = some ⟨[i64 ((n : Nat) : Int), pt ab 0], 46, 2, 0, true⟩) (hadj : pAdj 59 ad (pt ab 0) M0) (hok : okA ad) (cc0 : (decide ((((i : Nat) : Int)) < (((n : Nat) : Int)))) = true) (cc1 : (linkB ad (((i : Nat) : Int))) = false) : ∃ T1 M' b23, Rd Try.prog [] (q24.loopAt 0) Try.f24.ntmps (fr [(1, (pt b 0)), (3, sln), (6, (i64 (((n : Nat) : Int)))), (7, (i64 (((i : Nat) : Int))))]) M .normal T1 M' ∧ [1, 3, 6, 7].map T1.get = [some (pt b 0), some (sli b23 0 1 1), some (i64 (((n : Nat) : Int))), some (i64 (IntKind.wrap .i64 ((((i : Nat) : Int)) + (1 : Int))))] ∧ Ext M0 M' ∧ MemOk M' ∧ M'.get b = some ⟨[(i64 (((n : Nat) : Int))), (pt ab 0)], 46, 2, 0, true⟩ ∧ M0.next ≤ b23 ∧ M'.get b23 = some ⟨[(i64 (((i : Nat) : Int)))], 3, 1, 0, true⟩ ∧ ∀ id k, M.get id = some k → id ≠ b → M'.get id = some k := by
  obtain ⟨w1, N2, M3, p4, l5, e6, E7, hM8, F9⟩ := call_fc (x := ((n, ad), (((i : Nat) : Int)))) hM con21 (⟨⟨_, _, rfl, ⟨_, rfl, AP.Ext (R := (pAdj 59)) hadj X0⟩, rfl⟩, hok⟩)
  have g11 := E7.old gb
  have ew1 : w1 = (.bool (linkB ad (((i : Nat) : Int)))) := F9
  subst ew1
  have X12 := X0.trans E7
  obtain ⟨b13, M14, eb15, em16, g17, E18, hM19⟩ := new_t hM8 ⟨[(i64 (((i : Nat) : Int)))], 3, 1, 0, true⟩
  have nb13 : M0.next ≤ b13 := by rw [← eb15]; exact X12.next
  have dbb13 : b ≠ b13 := by have := Mem.lt_of_get g11; omega
  have g20 := E18.old g11
  have X22 := X12.trans E18
  obtain ⟨b23, M24, eb25, em26, g27, E29, hM28⟩ := new_t hM19 ⟨[(i64 (((i : Nat) : Int)))], 3, 1, 0, true⟩
  have nb23 : M0.next ≤ b23 := by rw [← eb25]; exact X22.next
  have dbb23 : b ≠ b23 := by have := Mem.lt_of_get g20; omega
  have db13b23 : b13 ≠ b23 := by have := Mem.lt_of_get g17; omega
  have g30 := E29.old g20
  have X32 := X22.trans E29
  have hraw := r24N_raw b n ab i ad M  M3 b13 M14 b23 M24
  have hkp : ∀ id k, M.get id = some k → id ≠ b → M24.get id = some k := fun id k g h_b => by
    have g0 := Mem.lt_of_get g
    have g := E7.old g
    have g := E18.old g
    have g := E29.old g
    exact g
  obtain ⟨T1, h1, h2⟩ := Rd.told noNumP mixedP (fun B => specsB_ok (k := []) (hS24_21 B) (fun p hp => by cases hp)) (fun _ _ => rfl) hraw (hk (bT cc0) (hk (lA ⟨dA46, dS46⟩ gb rfl) (hk (q_call rfl p4 l5 e6) (hk (bT (by rw [cc1]; rfl)) (hk (q_eq (by rw [← eb15, ← em16]; kernel_rfl) Nat.one_ne_zero) (hk (q_app (by rw [← eb25, ← em26]; exact append_nil (w := 1) (by kernel_rfl) (by kernel_rfl) (y := 8) (by kernel_rfl) (by decide) (by decide) g17 rfl rfl rfl) Nat.one_ne_zero) hn))))))
  exact ⟨T1, M24, b23, h1, h2, X32, hM28, g30, nb23, g27, hkp⟩
theorem r24G_raw (b n ab i : Nat) (ad : AdjM) (r k : Nat) (cr : List Value) (M : Mem) (M3 : Mem) (b14 : Nat) (M15 : Mem) (b27 : Nat) (M28 : Mem) : oR Try.prog [] 60 Try.f24 (q24.loopAt 0) [(1, (pt b 0)), (3, (sli r 0 k k)), (6, (i64 (((n : Nat) : Int)))), (7, (i64 (((i : Nat) : Int))))] M [ttT 2, ttL 8 (.agg ⟨[(i64 (((n : Nat) : Int))), (pt ab 0)]⟩), ttV 12 (.bool (linkB ad (((i : Nat) : Int)))) M3, ttT 15, ttV 21 (sli b14 0 1 2) M15, .at 23 (2, .val (sli b27 0 (k + 1) (k + 1)), M28)] [1, 3, 6, 7] = some (.normal, [some (pt b 0), some (sli b27 0 (k + 1) (k + 1)), some (i64 (((n : Nat) : Int))), some (i64 (IntKind.wrap .i64 ((((i : Nat) : Int)) + (1 : Int))))], M28, [qT (decide ((((i : Nat) : Int)) < (((n : Nat) : Int)))), qL 46 b 0 M (.agg ⟨[(i64 (((n : Nat) : Int))), (pt ab 0)]⟩), qC 21 [(.agg ⟨[(i64 (((n : Nat) : Int))), (pt ab 0)]⟩), (i64 (((i : Nat) : Int)))] M (.bool (linkB ad (((i : Nat) : Int)))) M3, qT (!(linkB ad (((i : Nat) : Int)))), .eq (abuildSlice Try.prog 22 1 [(0, (i64 (((i : Nat) : Int))))] M3) (1, .val (sli b14 0 1 2), M15), .q (.append [22, 22] (sli r 0 k k) (sli b14 0 1 2) M15) (2, .val (sli b27 0 (k + 1) (k + 1)), M28)]) := by kernel_rfl
theorem r24G (b n ab i : Nat) (ad : AdjM) (r k : Nat) (cr : List Value) {M M0 : Mem} (hM : MemOk M) (X0 : Ext M0 M) (gb : M.get b = some ⟨[i64 ((n : Nat) : Int), pt ab 0], 46, 2, 0, true⟩) (hadj : pAdj 59 ad (pt ab 0) M0) (hok : okA ad) (hr : M0.next ≤ r) (gr : M.get r = some ⟨cr, 3, 1, 0, true⟩) (hbr : b ≠ r) (cc0 : (decide ((((i : Nat) : Int)) < (((n : Nat) : Int)))) = true) (cc1 : (linkB ad (((i : Nat) : Int))) = false) (hg0 : k < 1073741824 ∧ (cr).length = k * 1) : ∃ T1 M' b27, Rd Try.prog [] (q24.loopAt 0) Try.f24.ntmps (fr [(1, (pt b 0)), (3, (sli r 0 k k)), (6, (i64 (((n : Nat) : Int)))), (7, (i64 (((i : Nat) : Int))))]) M .normal T1 M' ∧ [1, 3, 6, 7].map T1.get = [some (pt b 0), some (sli b27 0 (k + 1) (k + 1)), some (i64 (((n : Nat) : Int))), some (i64 (IntKind.wrap .i64 ((((i : Nat) : Int)) + (1 : Int))))] ∧ Ext M0 M' ∧ MemOk M' ∧ M'.get b = some ⟨[(i64 (((n : Nat) : Int))), (pt ab 0)], 46, 2, 0, true⟩ ∧ M0.next ≤ b27 ∧ M'.get b27 = some ⟨cr ++ [(i64 (((i : Nat) : Int)))], 3, 1, 0, true⟩ ∧ ∀ id k, M.get id = some k → id ≠ b → id ≠ r → M'.get id = some k := by
  obtain ⟨w1, N2, M3, p4, l5, e6, E7, hM8, F9⟩ := call_fc (x := ((n, ad), (((i : Nat) : Int)))) hM con21 (⟨⟨_, _, rfl, ⟨_, rfl, AP.Ext (R := (pAdj 59)) hadj X0⟩, rfl⟩, hok⟩)
  have g11 := E7.old gb
  have g12 := E7.old gr
  have ew1 : w1 = (.bool (linkB ad (((i : Nat) : Int)))) := F9
  subst ew1
  have X13 := X0.trans E7
  obtain ⟨b14, M15, eb16, em17, g18, E19, hM20⟩ := new_t hM8 ⟨[(i64 (((i : Nat) : Int)))], 3, 1, 0, true⟩
  have nb14 : M0.next ≤ b14 := by rw [← eb16]; exact X13.next
  have dbb14 : b ≠ b14 := by have := Mem.lt_of_get g11; omega
  have drb14 : r ≠ b14 := by have := Mem.lt_of_get g12; omega
  have g21 := E19.old g11
  have g22 := E19.old g12
  have X24 := X13.trans E19
  obtain ⟨b27, M28, eb29, em30, g31, X26, hM32, kp25⟩ := grow_t X24 hr hM20 ⟨cr ++ [(i64 (((i : Nat) : Int)))], 3, 1, 0, true⟩
  have nb27 : M0.next ≤ b27 := by rw [← eb29]; exact X24.next
  have dbb27 : b ≠ b27 := by have := Mem.lt_of_get g21; omega
  have drb27 : r ≠ b27 := by have := Mem.lt_of_get g22; omega
  have db14b27 : b14 ≠ b27 := by have := Mem.lt_of_get g18; omega
  have g33 := (kp25 _ hbr (Mem.lt_of_get g21)).trans g21
  have hraw := r24G_raw b n ab i ad r k cr M  M3 b14 M15 b27 M28
  have hkp : ∀ id k, M.get id = some k → id ≠ b → id ≠ r → M28.get id = some k := fun id k g h_b h_r => by
    have g0 := Mem.lt_of_get g
    have g := E7.old g
    have g := E19.old g
    have g := (kp25 id h_r (Mem.lt_of_get g)).trans g
    exact g
  obtain ⟨T1, h1, h2⟩ := Rd.told noNumP mixedP (fun B => specsB_ok (k := []) (hS24_21 B) (fun p hp => by cases hp)) (fun _ _ => rfl) hraw (hk (bT cc0) (hk (lA ⟨dA46, dS46⟩ gb rfl) (hk (q_call rfl p4 l5 e6) (hk (bT (by rw [cc1]; rfl)) (hk (q_eq (by rw [← eb16, ← em17]; kernel_rfl) Nat.one_ne_zero) (hk (q_app (by rw [← eb29, ← em30]; exact append_more (w := 1) (by kernel_rfl) (by kernel_rfl) (by kernel_rfl) (y := 8) (by kernel_rfl) (by decide) (by decide) hg0.1 g18 rfl rfl rfl g22 hg0.2 rfl rfl rfl rfl) (Nat.succ_ne_zero _)) hn))))))
  exact ⟨T1, M28, b27, h1, h2, X26, hM32, g33, nb27, g31, hkp⟩
theorem loop24 {b n ab : Nat} {ad : AdjM} {M : Mem} (hM : MemOk M) (gb : M.get b = some ⟨[i64 ((n : Nat) : Int), pt ab 0], 46, 2, 0, true⟩) (hadj : pAdj 59 ad (pt ab 0) M) (hok : okA ad) (hn : n ≤ 60) :
    ∃ S M', LoopR Try.prog [] (q24.loopAt 0) Try.f24.ntmps (fr [(1, pt b 0), (3, sln), (6, i64 ((n : Nat) : Int)), (7, i64 ((0 : Nat) : Int))]) M (.exit 0) (fr [(3, S)]) M' ∧ Ext M M' ∧ MemOk M' ∧ AccI M M' S (othersTo ad n) := by
  have hb := Mem.lt_of_get gb
  obtain ⟨S, M', h1, h2, h3, _, h4⟩ := LoopR.for (P := Try.prog) (GL := []) (b := q24.loopAt 0) (nt := Try.f24.ntmps) (id := 0) (σ := Value) (n := n) (Inv := fun i S M1 => Ext M M1 ∧ MemOk M1 ∧ M1.get b = some ⟨[i64 ((n : Nat) : Int), pt ab 0], 46, 2, 0, true⟩ ∧ AccI M M1 S (othersTo ad i))
    (F := fun i S => [(1, pt b 0), (3, S), (6, i64 ((n : Nat) : Int)), (7, i64 ((i : Nat) : Int))])
    (O := fun S => [(3, S)])
    (by
      rintro i S M1 hi ⟨X1, hM1, hg1, hA⟩
      cases hl : linkB ad ((i : Nat) : Int) with
      | true =>
        obtain ⟨T1, M2, h1, h2, h3, h4, h5, h6⟩ := r24L b n ab i S ad hM1 X1 hg1 hadj hok (decide_eq_true (by omega)) hl
        rw [wrap_succ (by omega)] at h2
        refine ⟨S, T1, M2, h1, h2, h3, h4, h5, ?_⟩
        rw [othersTo_succ, hl, if_pos rfl, List.append_nil]
        exact hA.keep fun id k hid hg => h6 id k hg (by omega)
      | false =>
        rw [othersTo_succ, hl, if_neg (by decide)]
        have hlen := othersTo_len ad i
        rcases hA with ⟨rfl, h0⟩ | ⟨r, rfl, h0, hr, hg⟩
        · obtain ⟨T1, M2, b2, h1, h2, h3, h4, h5, h6, h7, _⟩ := r24N b n ab i ad hM1 X1 hg1 hadj hok (decide_eq_true (by omega)) hl
          rw [wrap_succ (by omega)] at h2
          exact ⟨_, T1, M2, h1, h2, h3, h4, h5, .inr ⟨b2, by rw [h0]; rfl, by simp, h6, by rw [h7, h0]; rfl⟩⟩
        · obtain ⟨T1, M2, b2, h1, h2, h3, h4, h5, h6, h7, _⟩ := r24G b n ab i ad r (othersTo ad i).length _ hM1 X1 hg1 hadj hok hr hg (by omega) (decide_eq_true (by omega)) hl ⟨by omega, by simp⟩
          rw [wrap_succ (by omega)] at h2
          exact ⟨_, T1, M2, h1, h2, h3, h4, h5, .inr ⟨b2, by rw [List.length_append]; rfl, by simp, h6, by rw [h7, List.map_append]; rfl⟩⟩)
    (by
      rintro S M1 ⟨X1, hM1, _⟩
      exact r24x b n n S (M := M1) (decide_eq_false (by omega)))
    n 0 (by omega) (s := sln) (M := M) ⟨Ext.refl M, hM, gb, .inl ⟨rfl, rfl⟩⟩
  exact ⟨S, M', h1, h2, h3, h4⟩
theorem rK24 : Try.f24.results = #[.tmp 2] := by kernel_rfl
theorem w24_raw (n ab : Nat) (ad : AdjM) (M : Mem) (b1 : Nat) (M2 : Mem) (S10 : Value) (M12 : Mem) : oT Try.prog [0] 60 Try.f24 q24 [(.agg ⟨[(i64 (((n : Nat) : Int))), (pt ab 0)]⟩)] M [ttV 1 (pt b1 0) M2, ttL 9 (i64 (((n : Nat) : Int))), .blk 12 [1, 3, 6, 7] .normal (fr [(3, S10)]) M12] 2 = some (.ret, some S10, M12, [.eq (abox Try.prog 46 (.agg ⟨[(i64 (((n : Nat) : Int))), (pt ab 0)]⟩) M) (1, .val (pt b1 0), M2), qL 3 b1 0 M2 (i64 (((n : Nat) : Int))), .blk 0 (.loop (q24.loopAt 0)) Try.f24.ntmps [1, 3, 6, 7] [some (pt b1 0), some sln, some (i64 (((n : Nat) : Int))), some (i64 0)] M2 .normal (fr [(3, S10)]) M12]) := by kernel_rfl
theorem w24 (n ab : Nat) (ad : AdjM) {M : Mem} (hM : MemOk M) (hadj : pAdj 59 ad (pt ab 0) M) (hok : okA ad) (hn0 : n ≤ 60) : ∃ v_ M', Ev Try.prog [] 24 [(.agg ⟨[(i64 (((n : Nat) : Int))), (pt ab 0)]⟩)] M v_ M' ∧ Ext M M' ∧ MemOk M' ∧ newR pInts (othersTo ad n) M.next v_ M' := by
  obtain ⟨b1, M2, eb3, em4, g5, E6, hM7⟩ := new_t hM ⟨[(i64 (((n : Nat) : Int))), (pt ab 0)], 46, 2, 0, true⟩
  have nb1 : M.next ≤ b1 := by rw [← eb3]; exact (Ext.refl M).next
  have X9 := (Ext.refl M).trans E6
  obtain ⟨S10, M12, hL13, E14, hM15, A11⟩ := loop24 hM7 g5 (AP.Ext (R := (pAdj 59)) hadj X9) hok hn0
  have X18 := X9.trans E14
  have hraw := w24_raw n ab ad M  b1 M2 S10 M12
  exact ⟨S10, M12, Ev.told_tmp noNumP mixedP Try.func24 q24_ok (by kernel_rfl) rK24 (fun B => specsB_ok (l := []) (fun p hp => by cases hp) (k := [(0, bone (.loop (q24.loopAt 0)) Try.f24.ntmps [1, 3, 6, 7] [some (pt b1 0), some sln, some (i64 (((n : Nat) : Int))), some (i64 0)] M2 .normal (fr [(3, S10)]) M12)]) (fun p hp => by simp only [List.mem_cons, List.not_mem_nil, or_false] at hp; rcases hp with rfl <;> first | exact BlkOk.loop noNumP mixedP hL13)) (fun _ h => blksF_one h) hraw (hk (q_eq (by rw [← eb3, ← em4]; kernel_rfl) Nat.one_ne_zero) (hk (lC dC3 g5 rfl) (hk (q_blk rfl) hn))), X18, hM15, AccI.new A11 (Nat.le_trans (othersTo_len ad n) (by omega)) (X9).next⟩
abbrev Q24 := FC (asP (as1 (pSight 59)) fun x => okA x.2 ∧ x.1 ≤ 60) (newR pInts) (fun x => othersTo x.2 x.1)
theorem con24 {x : Nat × AdjM} {lv : List Value} {M : Mem} (hM : MemOk M) (h : (asP (as1 (pSight 59)) fun x : Nat × AdjM => okA x.2 ∧ x.1 ≤ 60) x lv M) : ∃ v M', Con Try.prog [] 24 Q24 lv M v M' := by
  refine FC.con h ?_
  obtain ⟨⟨g0, rfl, k0⟩, hok, hn⟩ := h
  obtain ⟨n, ad⟩ := x
  obtain ⟨p, rfl, hadj⟩ := k0
  obtain ⟨ab, o, i_, t, s, rfl, gab, hout, hinn, hto, hset⟩ := id hadj
  obtain ⟨v', M', h1, h2, _, h3⟩ := w24 n ab ad hM hadj hok hn
  exact ⟨v', M', h1, h2, h3⟩
end Go.Proofs.Ytfeabmmgmbddnaa
