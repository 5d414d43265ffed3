/-
  What is proved: MiniSteady: a machine of Make's is steady just if a letter twice is a letter once: for every x, y, every word. For every argument; one laid table (math/bits) is tied by the card.
-/
import Derived.Test.YtchnlooenomfnaaGreatDoorGAmFlat
import Derived.Test.YtchnlooenomfnaaGreatDoorGAmRF
import Derived.Test.YtchnlooenomfnaaGreatDoorSO
import Derived.Test.YtchnlooenomfnaaGreatDoorGAmRows
import Derived.Test.YtchnlooenomfnaaGreatDoorGX1
set_option linter.unusedVariables false
set_option linter.unusedSimpArgs false
open Go Go.Am Go.Proofs
namespace Go.Proofs.YtchnlooenomfnaaGreatDoor
set_option maxRecDepth 100000
theorem dC3 : (Tryz.prog.underlying 3).map isAggD = some false := by kernel_rfl
theorem dS3 : (Tryz.prog.info? 3).map (·.size) = some 1 := by kernel_rfl
theorem dC24 : (Tryz.prog.underlying 24).map isAggD = some false := by kernel_rfl
theorem dS24 : (Tryz.prog.info? 24).map (·.size) = some 1 := by kernel_rfl
theorem dC25 : (Tryz.prog.underlying 25).map isAggD = some false := by kernel_rfl
theorem dS25 : (Tryz.prog.info? 25).map (·.size) = some 1 := by kernel_rfl
theorem dA62 : (Tryz.prog.underlying 62).map isAggD = some true := by kernel_rfl
theorem dS62 : (Tryz.prog.info? 62).map (·.size) = some 5 := by kernel_rfl
def noneB (s n : Int) : Bool := decide (s < (0 : Int)) || decide (s ≥ n)
theorem rK32 : Tryz.f68.results = #[.tmp 4] := by kernel_rfl
theorem w32_0_raw (s n : Int)  (M : Mem)  : oT Tryz.prog [] 40 Tryz.f68 q68 [i64 s, i64 n] M [ttT 8, ttT 10, ttT 12, ttT 15] 4 = some (.ret, some (.bool true), M, [qT (decide (s < (0 : Int))), qT (decide (s < (0 : Int))), qT (decide (s < (0 : Int))), qT (decide (s < (0 : Int)))]) := by kernel_rfl
theorem w32_0 (s n : Int)  {M : Mem} (hM : MemOk M) (cc0 : (decide (s < (0 : Int))) = true) : ∃ M', Ev Tryz.prog [] 68 [i64 s, i64 n] M (.bool true) M' ∧ Ext M M' := by
  exact ⟨M, Ev.told_tmp noNumP mixedP Tryz.func68 q68_ok (by kernel_rfl) rK32 (specs_none Tryz.prog) (fun _ _ => rfl) (w32_0_raw s n M ) (hk (bT cc0) (hk (bT cc0) (hk (bT cc0) (hk (bT cc0) hn)))), (Ext.refl M)⟩
theorem w32_1_raw (s n : Int)  (M : Mem)  : oT Tryz.prog [] 40 Tryz.f68 q68 [i64 s, i64 n] M [ttF 8, ttF 10, ttF 12, ttF 15] 4 = some (.ret, some (.bool (decide (s ≥ n))), M, [qF (decide (s < (0 : Int))), qF (decide (s < (0 : Int))), qF (decide (s < (0 : Int))), qF (decide (s < (0 : Int)))]) := by kernel_rfl
theorem w32_1 (s n : Int)  {M : Mem} (hM : MemOk M) (cc0 : (decide (s < (0 : Int))) = false) : ∃ M', Ev Tryz.prog [] 68 [i64 s, i64 n] M (.bool (decide (s ≥ n))) M' ∧ Ext M M' := by
  exact ⟨M, Ev.told_tmp noNumP mixedP Tryz.func68 q68_ok (by kernel_rfl) rK32 (specs_none Tryz.prog) (fun _ _ => rfl) (w32_1_raw s n M ) (hk (bF cc0) (hk (bF cc0) (hk (bF cc0) (hk (bF cc0) hn)))), (Ext.refl M)⟩
theorem w32_all (s n : Int) {M : Mem} (hM : MemOk M) : ∃ M', Ev Tryz.prog [] 68 [i64 s, i64 n] M (.bool (noneB s n)) M' ∧ Ext M M' := by
  cases cc0 : (decide (s < (0 : Int))) with
  | true =>
    have h := w32_0 s n hM  cc0
    first | exact h | (have e : ((.bool (noneB s n)) : Value) = (.bool true) := (by simp only [noneB, cc0, cond_true, cond_false, Bool.true_and, Bool.false_and, Bool.and_true, Bool.and_false, Bool.true_or, Bool.false_or, Bool.or_true, Bool.or_false, Bool.not_true, Bool.not_false] <;> rfl); rw [e]; exact h)
  | false =>
    have h := w32_1 s n hM  cc0
    first | exact h | (have e : ((.bool (noneB s n)) : Value) = (.bool (decide (s ≥ n))) := (by simp only [noneB, cc0, cond_true, cond_false, Bool.true_and, Bool.false_and, Bool.and_true, Bool.and_false, Bool.true_or, Bool.false_or, Bool.or_true, Bool.or_false, Bool.not_true, Bool.not_false] <;> rfl); rw [e]; exact h)
def g32 : List Value → Option Value
  | [.int .i64 s, .int .i64 n] => some (.bool (noneB s n))
  | _ => none
theorem con68 (s n : Int) {M : Mem} (hM : MemOk M) : ∃ v M', Con Tryz.prog [] 68 (Fl g32) [i64 s, i64 n] M v M' := Con.fl rfl (w32_all s n hM)
structure DfaAt (M : Mem) (v : Value) (l1 : List (List Int)) (l2 : List Bool) : Prop where
  at_ : ∃ L1 L2, v = .agg ⟨[L1, L2]⟩ ∧ FlatAt 5 M L1 l1 ∧ BoolsAt M L2 l2
theorem DfaAt.ext {M M' : Mem} {v : Value} {l1 : List (List Int)} {l2 : List Bool} (h : DfaAt M v l1 l2) (hE : ∀ id b, M.get id = some b → M'.get id = some b) : DfaAt M' v l1 l2 := by
  obtain ⟨L1, L2, h1, h2, h3⟩ := h.at_
  exact ⟨L1, L2, h1, h2.ext hE, h3.ext hE⟩
theorem DfaAt.Ext {M M' : Mem} {v : Value} {l1 : List (List Int)} {l2 : List Bool} (h : DfaAt M v l1 l2) (hE : Go.Am.Ext M M') : DfaAt M' v l1 l2 := h.ext fun _ _ hg => hE.old hg
theorem DfaAt.log {M : Mem} {lg : List Nat} {v : Value} {l1 : List (List Int)} {l2 : List Bool} (h : DfaAt M v l1 l2) : DfaAt { M with log := lg } v l1 l2 := h.ext (M := M) (M' := { M with log := lg }) fun _ _ hg => hg
theorem DfaAt.unique {M : Mem} {v : Value} {l1 k1 : List (List Int)} {l2 k2 : List Bool} (h : DfaAt M v l1 l2) (k : DfaAt M v k1 k2) : l1 = k1 ∧ l2 = k2 := by
  obtain ⟨L1, L2, rfl, h2, h3⟩ := h.at_
  obtain ⟨K1, K2, e, k2, k3⟩ := k.at_
  simp only [Value.agg.injEq, Array.mk.injEq, List.cons.injEq, and_true] at e
  obtain ⟨rfl, rfl⟩ := e
  exact ⟨h2.unique k2, h3.unique bRow_inj k3⟩
theorem five_of {r : List Int} (h : r.length = 5) : ∃ x y z u t, r = [x, y, z, u, t] := by
  match r, h with
  | [x, y, z, u, t], _ => exact ⟨x, y, z, u, t, rfl⟩
def badR (n : Int) (r : List Int) : Bool := r.any fun z => noneB z n
def chkB (l1 : List (List Int)) (l2 : List Bool) : Bool :=
  !(decide (((l1.length : Nat) : Int) < (1 : Int)) || decide (((l1.length : Nat) : Int) > (2000 : Int)) || !(((l2.length : Nat) : Int) == ((l1.length : Nat) : Int))) && !(l1.any (badR ((l1.length : Nat) : Int)))
theorem rK15 : Tryz.f41.results = #[.tmp 2] := by kernel_rfl
theorem hS15_32 (B : Bd) : ∀ p ∈ ([(68, pick (Con Tryz.prog [] 68 (Fl g32)))] : List (FuncId × (List Value → Mem → Option (Value × Mem)))), SpecOk Tryz.prog [] B p.1 p.2 := (fun p hp => by simp only [List.mem_cons, List.not_mem_nil, or_false] at hp; rcases hp with rfl <;> first | exact Con.ok _)
theorem rd15_0_raw (bb o m c i : Nat) (x y z u t : Int) (M : Mem) (b1 : Nat) (M2 : Mem) (M9 : Mem) (M18 : Mem) : oR Tryz.prog [] 40 Tryz.f41 (q41.loopAt 0) [(3, (i64 (((m : Nat) : Int)))), (25, (sli bb o m c)), (26, (i64 (((m : Nat) : Int)))), (27, (i64 (((i : Nat) : Int))))] M [ttT 2, ttT 4, ttL 6 (.agg ⟨[(i64 x), (i64 y), (i64 z), (i64 u), (i64 t)]⟩), ttV 8 (pt b1 0) M2, ttS 10 M9, ttL 12 (.agg ⟨[(i64 x), (i64 y), (i64 z), (i64 u), (i64 t)]⟩), ttV 27 (.bool (noneB x (((m : Nat) : Int)))) M18, ttT 28] [2] = some (.ret, [some (.bool false)], M18, [qT (decide ((((i : Nat) : Int)) < (((m : Nat) : Int)))), .q (.inb (((i : Nat) : Int)) m) (ansB true), qL 62 bb (o + (((i : Nat) : Int) : Int).toNat * 5) M (.agg ⟨[(i64 x), (i64 y), (i64 z), (i64 u), (i64 t)]⟩), .eq (aalloc Tryz.prog 62 M) (1, .val (pt b1 0), M2), qS 62 b1 0 (.agg ⟨[(i64 x), (i64 y), (i64 z), (i64 u), (i64 t)]⟩) M2 M9, qL 62 b1 0 M9 (.agg ⟨[(i64 x), (i64 y), (i64 z), (i64 u), (i64 t)]⟩), qC 68 [(i64 x), (i64 (((m : Nat) : Int)))] M9 (.bool (noneB x (((m : Nat) : Int)))) M18, qT (noneB x (((m : Nat) : Int)))]) := by kernel_rfl
theorem rd15_0 (bb o m c i : Nat) (x y z u t : Int) {M : Mem} (hM : MemOk M) (hld : aload Tryz.prog 62 ⟨bb, o + i * 5, none⟩ M = some (.agg ⟨[i64 x, i64 y, i64 z, i64 u, i64 t]⟩)) (cc0 : (decide ((((i : Nat) : Int)) < (((m : Nat) : Int)))) = true) (cc1 : (noneB x (((m : Nat) : Int))) = true) : ∃ T1 M', Rd Tryz.prog [] (q41.loopAt 0) Tryz.f41.ntmps (fr [(3, (i64 (((m : Nat) : Int)))), (25, (sli bb o m c)), (26, (i64 (((m : Nat) : Int)))), (27, (i64 (((i : Nat) : Int))))]) M .ret T1 M' ∧ [2].map T1.get = [some (.bool false)] ∧ Ext M M' ∧ MemOk M' := by
  obtain ⟨b1, M2, eb3, em4, g5, E6, hM7⟩ := new_t hM ⟨[(i64 0), (i64 0), (i64 0), (i64 0), (i64 0)], 62, 1, 0, true⟩
  have nb1 : M.next ≤ b1 := by rw [← eb3]; exact (Ext.refl M).next
  have X8 := (Ext.refl M).trans E6
  obtain ⟨M9, q10, g11, kp12, X13, hM14, nx15⟩ := store_t (o := 0) (v := (.agg ⟨[(i64 x), (i64 y), (i64 z), (i64 u), (i64 t)]⟩)) (new := [(i64 x), (i64 y), (i64 z), (i64 u), (i64 t)]) X8 nb1 hM7 dS62 g5 rfl rfl (Nat.zero_le _) (Nat.le_of_ble_eq_true rfl) rfl
  replace g11 : M9.get b1 = some ⟨[(i64 x), (i64 y), (i64 z), (i64 u), (i64 t)], 62, 1, 0, true⟩ := g11
  obtain ⟨w16, N17, M18, p19, l20, e21, E22, hM23, Q24, G25⟩ := call_t (P := Tryz.prog) (GL := []) (f := 68) hM14 (con68 x (((m : Nat) : Int)) (MemOk.log hM14))
  have g26 := E22.old g11
  have ew16 : w16 = (.bool (noneB x (((m : Nat) : Int)))) := (Option.some.inj Q24).symm
  subst ew16
  have X27 := X13.trans E22
  obtain ⟨T1, h1, h2⟩ := Rd.told noNumP mixedP (fun B => specsB_ok (k := []) (hS15_32 B) (fun p hp => by cases hp)) (fun _ _ => rfl) (rd15_0_raw bb o m c i x y z u t M b1 M2 M9 M18) (hk (bT cc0) (hk (q_inb (by omega) (by simp at cc0; omega)) (hk (q_ld (aload_ext (Ext.refl M) hld)) (hk (q_eq (by rw [← eb3, ← em4]; kernel_rfl) Nat.one_ne_zero) (hk (q_st q10) (hk (lA ⟨dA62, dS62⟩ g11 rfl) (hk (q_call rfl p19 l20 e21) (hk (bT cc1) hn))))))))
  exact ⟨T1, M18, h1, h2, X27, hM23⟩
theorem rd15_1_raw (bb o m c i : Nat) (x y z u t : Int) (M : Mem) (b1 : Nat) (M2 : Mem) (M9 : Mem) (M18 : Mem) (M30 : Mem) : oR Tryz.prog [] 40 Tryz.f41 (q41.loopAt 0) [(3, (i64 (((m : Nat) : Int)))), (25, (sli bb o m c)), (26, (i64 (((m : Nat) : Int)))), (27, (i64 (((i : Nat) : Int))))] M [ttT 2, ttT 4, ttL 6 (.agg ⟨[(i64 x), (i64 y), (i64 z), (i64 u), (i64 t)]⟩), ttV 8 (pt b1 0) M2, ttS 10 M9, ttL 12 (.agg ⟨[(i64 x), (i64 y), (i64 z), (i64 u), (i64 t)]⟩), ttV 27 (.bool (noneB x (((m : Nat) : Int)))) M18, ttF 28, ttV 45 (.bool (noneB y (((m : Nat) : Int)))) M30, ttT 46] [2] = some (.ret, [some (.bool false)], M30, [qT (decide ((((i : Nat) : Int)) < (((m : Nat) : Int)))), .q (.inb (((i : Nat) : Int)) m) (ansB true), qL 62 bb (o + (((i : Nat) : Int) : Int).toNat * 5) M (.agg ⟨[(i64 x), (i64 y), (i64 z), (i64 u), (i64 t)]⟩), .eq (aalloc Tryz.prog 62 M) (1, .val (pt b1 0), M2), qS 62 b1 0 (.agg ⟨[(i64 x), (i64 y), (i64 z), (i64 u), (i64 t)]⟩) M2 M9, qL 62 b1 0 M9 (.agg ⟨[(i64 x), (i64 y), (i64 z), (i64 u), (i64 t)]⟩), qC 68 [(i64 x), (i64 (((m : Nat) : Int)))] M9 (.bool (noneB x (((m : Nat) : Int)))) M18, qF (noneB x (((m : Nat) : Int))), qC 68 [(i64 y), (i64 (((m : Nat) : Int)))] M18 (.bool (noneB y (((m : Nat) : Int)))) M30, qT (noneB y (((m : Nat) : Int)))]) := by kernel_rfl
theorem rd15_1 (bb o m c i : Nat) (x y z u t : Int) {M : Mem} (hM : MemOk M) (hld : aload Tryz.prog 62 ⟨bb, o + i * 5, none⟩ M = some (.agg ⟨[i64 x, i64 y, i64 z, i64 u, i64 t]⟩)) (cc0 : (decide ((((i : Nat) : Int)) < (((m : Nat) : Int)))) = true) (cc1 : (noneB x (((m : Nat) : Int))) = false) (cc2 : (noneB y (((m : Nat) : Int))) = true) : ∃ T1 M', Rd Tryz.prog [] (q41.loopAt 0) Tryz.f41.ntmps (fr [(3, (i64 (((m : Nat) : Int)))), (25, (sli bb o m c)), (26, (i64 (((m : Nat) : Int)))), (27, (i64 (((i : Nat) : Int))))]) M .ret T1 M' ∧ [2].map T1.get = [some (.bool false)] ∧ Ext M M' ∧ MemOk M' := by
  obtain ⟨b1, M2, eb3, em4, g5, E6, hM7⟩ := new_t hM ⟨[(i64 0), (i64 0), (i64 0), (i64 0), (i64 0)], 62, 1, 0, true⟩
  have nb1 : M.next ≤ b1 := by rw [← eb3]; exact (Ext.refl M).next
  have X8 := (Ext.refl M).trans E6
  obtain ⟨M9, q10, g11, kp12, X13, hM14, nx15⟩ := store_t (o := 0) (v := (.agg ⟨[(i64 x), (i64 y), (i64 z), (i64 u), (i64 t)]⟩)) (new := [(i64 x), (i64 y), (i64 z), (i64 u), (i64 t)]) X8 nb1 hM7 dS62 g5 rfl rfl (Nat.zero_le _) (Nat.le_of_ble_eq_true rfl) rfl
  replace g11 : M9.get b1 = some ⟨[(i64 x), (i64 y), (i64 z), (i64 u), (i64 t)], 62, 1, 0, true⟩ := g11
  obtain ⟨w16, N17, M18, p19, l20, e21, E22, hM23, Q24, G25⟩ := call_t (P := Tryz.prog) (GL := []) (f := 68) hM14 (con68 x (((m : Nat) : Int)) (MemOk.log hM14))
  have g26 := E22.old g11
  have ew16 : w16 = (.bool (noneB x (((m : Nat) : Int)))) := (Option.some.inj Q24).symm
  subst ew16
  have X27 := X13.trans E22
  obtain ⟨w28, N29, M30, p31, l32, e33, E34, hM35, Q36, G37⟩ := call_t (P := Tryz.prog) (GL := []) (f := 68) hM23 (con68 y (((m : Nat) : Int)) (MemOk.log hM23))
  have g38 := E34.old g26
  have ew28 : w28 = (.bool (noneB y (((m : Nat) : Int)))) := (Option.some.inj Q36).symm
  subst ew28
  have X39 := X27.trans E34
  obtain ⟨T1, h1, h2⟩ := Rd.told noNumP mixedP (fun B => specsB_ok (k := []) (hS15_32 B) (fun p hp => by cases hp)) (fun _ _ => rfl) (rd15_1_raw bb o m c i x y z u t M b1 M2 M9 M18 M30) (hk (bT cc0) (hk (q_inb (by omega) (by simp at cc0; omega)) (hk (q_ld (aload_ext (Ext.refl M) hld)) (hk (q_eq (by rw [← eb3, ← em4]; kernel_rfl) Nat.one_ne_zero) (hk (q_st q10) (hk (lA ⟨dA62, dS62⟩ g11 rfl) (hk (q_call rfl p19 l20 e21) (hk (bF cc1) (hk (q_call rfl p31 l32 e33) (hk (bT cc2) hn))))))))))
  exact ⟨T1, M30, h1, h2, X39, hM35⟩
theorem rd15_2_raw (bb o m c i : Nat) (x y z u t : Int) (M : Mem) (b1 : Nat) (M2 : Mem) (M9 : Mem) (M18 : Mem) (M30 : Mem) (M42 : Mem) : oR Tryz.prog [] 40 Tryz.f41 (q41.loopAt 0) [(3, (i64 (((m : Nat) : Int)))), (25, (sli bb o m c)), (26, (i64 (((m : Nat) : Int)))), (27, (i64 (((i : Nat) : Int))))] M [ttT 2, ttT 4, ttL 6 (.agg ⟨[(i64 x), (i64 y), (i64 z), (i64 u), (i64 t)]⟩), ttV 8 (pt b1 0) M2, ttS 10 M9, ttL 12 (.agg ⟨[(i64 x), (i64 y), (i64 z), (i64 u), (i64 t)]⟩), ttV 27 (.bool (noneB x (((m : Nat) : Int)))) M18, ttF 28, ttV 45 (.bool (noneB y (((m : Nat) : Int)))) M30, ttF 46, ttV 63 (.bool (noneB z (((m : Nat) : Int)))) M42, ttT 64] [2] = some (.ret, [some (.bool false)], M42, [qT (decide ((((i : Nat) : Int)) < (((m : Nat) : Int)))), .q (.inb (((i : Nat) : Int)) m) (ansB true), qL 62 bb (o + (((i : Nat) : Int) : Int).toNat * 5) M (.agg ⟨[(i64 x), (i64 y), (i64 z), (i64 u), (i64 t)]⟩), .eq (aalloc Tryz.prog 62 M) (1, .val (pt b1 0), M2), qS 62 b1 0 (.agg ⟨[(i64 x), (i64 y), (i64 z), (i64 u), (i64 t)]⟩) M2 M9, qL 62 b1 0 M9 (.agg ⟨[(i64 x), (i64 y), (i64 z), (i64 u), (i64 t)]⟩), qC 68 [(i64 x), (i64 (((m : Nat) : Int)))] M9 (.bool (noneB x (((m : Nat) : Int)))) M18, qF (noneB x (((m : Nat) : Int))), qC 68 [(i64 y), (i64 (((m : Nat) : Int)))] M18 (.bool (noneB y (((m : Nat) : Int)))) M30, qF (noneB y (((m : Nat) : Int))), qC 68 [(i64 z), (i64 (((m : Nat) : Int)))] M30 (.bool (noneB z (((m : Nat) : Int)))) M42, qT (noneB z (((m : Nat) : Int)))]) := by kernel_rfl
theorem rd15_2 (bb o m c i : Nat) (x y z u t : Int) {M : Mem} (hM : MemOk M) (hld : aload Tryz.prog 62 ⟨bb, o + i * 5, none⟩ M = some (.agg ⟨[i64 x, i64 y, i64 z, i64 u, i64 t]⟩)) (cc0 : (decide ((((i : Nat) : Int)) < (((m : Nat) : Int)))) = true) (cc1 : (noneB x (((m : Nat) : Int))) = false) (cc2 : (noneB y (((m : Nat) : Int))) = false) (cc3 : (noneB z (((m : Nat) : Int))) = true) : ∃ T1 M', Rd Tryz.prog [] (q41.loopAt 0) Tryz.f41.ntmps (fr [(3, (i64 (((m : Nat) : Int)))), (25, (sli bb o m c)), (26, (i64 (((m : Nat) : Int)))), (27, (i64 (((i : Nat) : Int))))]) M .ret T1 M' ∧ [2].map T1.get = [some (.bool false)] ∧ Ext M M' ∧ MemOk M' := by
  obtain ⟨b1, M2, eb3, em4, g5, E6, hM7⟩ := new_t hM ⟨[(i64 0), (i64 0), (i64 0), (i64 0), (i64 0)], 62, 1, 0, true⟩
  have nb1 : M.next ≤ b1 := by rw [← eb3]; exact (Ext.refl M).next
  have X8 := (Ext.refl M).trans E6
  obtain ⟨M9, q10, g11, kp12, X13, hM14, nx15⟩ := store_t (o := 0) (v := (.agg ⟨[(i64 x), (i64 y), (i64 z), (i64 u), (i64 t)]⟩)) (new := [(i64 x), (i64 y), (i64 z), (i64 u), (i64 t)]) X8 nb1 hM7 dS62 g5 rfl rfl (Nat.zero_le _) (Nat.le_of_ble_eq_true rfl) rfl
  replace g11 : M9.get b1 = some ⟨[(i64 x), (i64 y), (i64 z), (i64 u), (i64 t)], 62, 1, 0, true⟩ := g11
  obtain ⟨w16, N17, M18, p19, l20, e21, E22, hM23, Q24, G25⟩ := call_t (P := Tryz.prog) (GL := []) (f := 68) hM14 (con68 x (((m : Nat) : Int)) (MemOk.log hM14))
  have g26 := E22.old g11
  have ew16 : w16 = (.bool (noneB x (((m : Nat) : Int)))) := (Option.some.inj Q24).symm
  subst ew16
  have X27 := X13.trans E22
  obtain ⟨w28, N29, M30, p31, l32, e33, E34, hM35, Q36, G37⟩ := call_t (P := Tryz.prog) (GL := []) (f := 68) hM23 (con68 y (((m : Nat) : Int)) (MemOk.log hM23))
  have g38 := E34.old g26
  have ew28 : w28 = (.bool (noneB y (((m : Nat) : Int)))) := (Option.some.inj Q36).symm
  subst ew28
  have X39 := X27.trans E34
  obtain ⟨w40, N41, M42, p43, l44, e45, E46, hM47, Q48, G49⟩ := call_t (P := Tryz.prog) (GL := []) (f := 68) hM35 (con68 z (((m : Nat) : Int)) (MemOk.log hM35))
  have g50 := E46.old g38
  have ew40 : w40 = (.bool (noneB z (((m : Nat) : Int)))) := (Option.some.inj Q48).symm
  subst ew40
  have X51 := X39.trans E46
  obtain ⟨T1, h1, h2⟩ := Rd.told noNumP mixedP (fun B => specsB_ok (k := []) (hS15_32 B) (fun p hp => by cases hp)) (fun _ _ => rfl) (rd15_2_raw bb o m c i x y z u t M b1 M2 M9 M18 M30 M42) (hk (bT cc0) (hk (q_inb (by omega) (by simp at cc0; omega)) (hk (q_ld (aload_ext (Ext.refl M) hld)) (hk (q_eq (by rw [← eb3, ← em4]; kernel_rfl) Nat.one_ne_zero) (hk (q_st q10) (hk (lA ⟨dA62, dS62⟩ g11 rfl) (hk (q_call rfl p19 l20 e21) (hk (bF cc1) (hk (q_call rfl p31 l32 e33) (hk (bF cc2) (hk (q_call rfl p43 l44 e45) (hk (bT cc3) hn))))))))))))
  exact ⟨T1, M42, h1, h2, X51, hM47⟩
theorem rd15_3_raw (bb o m c i : Nat) (x y z u t : Int) (M : Mem) (b1 : Nat) (M2 : Mem) (M9 : Mem) (M18 : Mem) (M30 : Mem) (M42 : Mem) (M54 : Mem) : oR Tryz.prog [] 40 Tryz.f41 (q41.loopAt 0) [(3, (i64 (((m : Nat) : Int)))), (25, (sli bb o m c)), (26, (i64 (((m : Nat) : Int)))), (27, (i64 (((i : Nat) : Int))))] M [ttT 2, ttT 4, ttL 6 (.agg ⟨[(i64 x), (i64 y), (i64 z), (i64 u), (i64 t)]⟩), ttV 8 (pt b1 0) M2, ttS 10 M9, ttL 12 (.agg ⟨[(i64 x), (i64 y), (i64 z), (i64 u), (i64 t)]⟩), ttV 27 (.bool (noneB x (((m : Nat) : Int)))) M18, ttF 28, ttV 45 (.bool (noneB y (((m : Nat) : Int)))) M30, ttF 46, ttV 63 (.bool (noneB z (((m : Nat) : Int)))) M42, ttF 64, ttV 81 (.bool (noneB u (((m : Nat) : Int)))) M54, ttT 82] [2] = some (.ret, [some (.bool false)], M54, [qT (decide ((((i : Nat) : Int)) < (((m : Nat) : Int)))), .q (.inb (((i : Nat) : Int)) m) (ansB true), qL 62 bb (o + (((i : Nat) : Int) : Int).toNat * 5) M (.agg ⟨[(i64 x), (i64 y), (i64 z), (i64 u), (i64 t)]⟩), .eq (aalloc Tryz.prog 62 M) (1, .val (pt b1 0), M2), qS 62 b1 0 (.agg ⟨[(i64 x), (i64 y), (i64 z), (i64 u), (i64 t)]⟩) M2 M9, qL 62 b1 0 M9 (.agg ⟨[(i64 x), (i64 y), (i64 z), (i64 u), (i64 t)]⟩), qC 68 [(i64 x), (i64 (((m : Nat) : Int)))] M9 (.bool (noneB x (((m : Nat) : Int)))) M18, qF (noneB x (((m : Nat) : Int))), qC 68 [(i64 y), (i64 (((m : Nat) : Int)))] M18 (.bool (noneB y (((m : Nat) : Int)))) M30, qF (noneB y (((m : Nat) : Int))), qC 68 [(i64 z), (i64 (((m : Nat) : Int)))] M30 (.bool (noneB z (((m : Nat) : Int)))) M42, qF (noneB z (((m : Nat) : Int))), qC 68 [(i64 u), (i64 (((m : Nat) : Int)))] M42 (.bool (noneB u (((m : Nat) : Int)))) M54, qT (noneB u (((m : Nat) : Int)))]) := by kernel_rfl
theorem rd15_3 (bb o m c i : Nat) (x y z u t : Int) {M : Mem} (hM : MemOk M) (hld : aload Tryz.prog 62 ⟨bb, o + i * 5, none⟩ M = some (.agg ⟨[i64 x, i64 y, i64 z, i64 u, i64 t]⟩)) (cc0 : (decide ((((i : Nat) : Int)) < (((m : Nat) : Int)))) = true) (cc1 : (noneB x (((m : Nat) : Int))) = false) (cc2 : (noneB y (((m : Nat) : Int))) = false) (cc3 : (noneB z (((m : Nat) : Int))) = false) (cc4 : (noneB u (((m : Nat) : Int))) = true) : ∃ T1 M', Rd Tryz.prog [] (q41.loopAt 0) Tryz.f41.ntmps (fr [(3, (i64 (((m : Nat) : Int)))), (25, (sli bb o m c)), (26, (i64 (((m : Nat) : Int)))), (27, (i64 (((i : Nat) : Int))))]) M .ret T1 M' ∧ [2].map T1.get = [some (.bool false)] ∧ Ext M M' ∧ MemOk M' := by
  obtain ⟨b1, M2, eb3, em4, g5, E6, hM7⟩ := new_t hM ⟨[(i64 0), (i64 0), (i64 0), (i64 0), (i64 0)], 62, 1, 0, true⟩
  have nb1 : M.next ≤ b1 := by rw [← eb3]; exact (Ext.refl M).next
  have X8 := (Ext.refl M).trans E6
  obtain ⟨M9, q10, g11, kp12, X13, hM14, nx15⟩ := store_t (o := 0) (v := (.agg ⟨[(i64 x), (i64 y), (i64 z), (i64 u), (i64 t)]⟩)) (new := [(i64 x), (i64 y), (i64 z), (i64 u), (i64 t)]) X8 nb1 hM7 dS62 g5 rfl rfl (Nat.zero_le _) (Nat.le_of_ble_eq_true rfl) rfl
  replace g11 : M9.get b1 = some ⟨[(i64 x), (i64 y), (i64 z), (i64 u), (i64 t)], 62, 1, 0, true⟩ := g11
  obtain ⟨w16, N17, M18, p19, l20, e21, E22, hM23, Q24, G25⟩ := call_t (P := Tryz.prog) (GL := []) (f := 68) hM14 (con68 x (((m : Nat) : Int)) (MemOk.log hM14))
  have g26 := E22.old g11
  have ew16 : w16 = (.bool (noneB x (((m : Nat) : Int)))) := (Option.some.inj Q24).symm
  subst ew16
  have X27 := X13.trans E22
  obtain ⟨w28, N29, M30, p31, l32, e33, E34, hM35, Q36, G37⟩ := call_t (P := Tryz.prog) (GL := []) (f := 68) hM23 (con68 y (((m : Nat) : Int)) (MemOk.log hM23))
  have g38 := E34.old g26
  have ew28 : w28 = (.bool (noneB y (((m : Nat) : Int)))) := (Option.some.inj Q36).symm
  subst ew28
  have X39 := X27.trans E34
  obtain ⟨w40, N41, M42, p43, l44, e45, E46, hM47, Q48, G49⟩ := call_t (P := Tryz.prog) (GL := []) (f := 68) hM35 (con68 z (((m : Nat) : Int)) (MemOk.log hM35))
  have g50 := E46.old g38
  have ew40 : w40 = (.bool (noneB z (((m : Nat) : Int)))) := (Option.some.inj Q48).symm
  subst ew40
  have X51 := X39.trans E46
  obtain ⟨w52, N53, M54, p55, l56, e57, E58, hM59, Q60, G61⟩ := call_t (P := Tryz.prog) (GL := []) (f := 68) hM47 (con68 u (((m : Nat) : Int)) (MemOk.log hM47))
  have g62 := E58.old g50
  have ew52 : w52 = (.bool (noneB u (((m : Nat) : Int)))) := (Option.some.inj Q60).symm
  subst ew52
  have X63 := X51.trans E58
  obtain ⟨T1, h1, h2⟩ := Rd.told noNumP mixedP (fun B => specsB_ok (k := []) (hS15_32 B) (fun p hp => by cases hp)) (fun _ _ => rfl) (rd15_3_raw bb o m c i x y z u t M b1 M2 M9 M18 M30 M42 M54) (hk (bT cc0) (hk (q_inb (by omega) (by simp at cc0; omega)) (hk (q_ld (aload_ext (Ext.refl M) hld)) (hk (q_eq (by rw [← eb3, ← em4]; kernel_rfl) Nat.one_ne_zero) (hk (q_st q10) (hk (lA ⟨dA62, dS62⟩ g11 rfl) (hk (q_call rfl p19 l20 e21) (hk (bF cc1) (hk (q_call rfl p31 l32 e33) (hk (bF cc2) (hk (q_call rfl p43 l44 e45) (hk (bF cc3) (hk (q_call rfl p55 l56 e57) (hk (bT cc4) hn))))))))))))))
  exact ⟨T1, M54, h1, h2, X63, hM59⟩
theorem rd15_4_raw (bb o m c i : Nat) (x y z u t : Int) (M : Mem) (b1 : Nat) (M2 : Mem) (M9 : Mem) (M18 : Mem) (M30 : Mem) (M42 : Mem) (M54 : Mem) (M66 : Mem) : oR Tryz.prog [] 40 Tryz.f41 (q41.loopAt 0) [(3, (i64 (((m : Nat) : Int)))), (25, (sli bb o m c)), (26, (i64 (((m : Nat) : Int)))), (27, (i64 (((i : Nat) : Int))))] M [ttT 2, ttT 4, ttL 6 (.agg ⟨[(i64 x), (i64 y), (i64 z), (i64 u), (i64 t)]⟩), ttV 8 (pt b1 0) M2, ttS 10 M9, ttL 12 (.agg ⟨[(i64 x), (i64 y), (i64 z), (i64 u), (i64 t)]⟩), ttV 27 (.bool (noneB x (((m : Nat) : Int)))) M18, ttF 28, ttV 45 (.bool (noneB y (((m : Nat) : Int)))) M30, ttF 46, ttV 63 (.bool (noneB z (((m : Nat) : Int)))) M42, ttF 64, ttV 81 (.bool (noneB u (((m : Nat) : Int)))) M54, ttF 82, ttV 99 (.bool (noneB t (((m : Nat) : Int)))) M66, ttT 100] [2] = some (.ret, [some (.bool false)], M66, [qT (decide ((((i : Nat) : Int)) < (((m : Nat) : Int)))), .q (.inb (((i : Nat) : Int)) m) (ansB true), qL 62 bb (o + (((i : Nat) : Int) : Int).toNat * 5) M (.agg ⟨[(i64 x), (i64 y), (i64 z), (i64 u), (i64 t)]⟩), .eq (aalloc Tryz.prog 62 M) (1, .val (pt b1 0), M2), qS 62 b1 0 (.agg ⟨[(i64 x), (i64 y), (i64 z), (i64 u), (i64 t)]⟩) M2 M9, qL 62 b1 0 M9 (.agg ⟨[(i64 x), (i64 y), (i64 z), (i64 u), (i64 t)]⟩), qC 68 [(i64 x), (i64 (((m : Nat) : Int)))] M9 (.bool (noneB x (((m : Nat) : Int)))) M18, qF (noneB x (((m : Nat) : Int))), qC 68 [(i64 y), (i64 (((m : Nat) : Int)))] M18 (.bool (noneB y (((m : Nat) : Int)))) M30, qF (noneB y (((m : Nat) : Int))), qC 68 [(i64 z), (i64 (((m : Nat) : Int)))] M30 (.bool (noneB z (((m : Nat) : Int)))) M42, qF (noneB z (((m : Nat) : Int))), qC 68 [(i64 u), (i64 (((m : Nat) : Int)))] M42 (.bool (noneB u (((m : Nat) : Int)))) M54, qF (noneB u (((m : Nat) : Int))), qC 68 [(i64 t), (i64 (((m : Nat) : Int)))] M54 (.bool (noneB t (((m : Nat) : Int)))) M66, qT (noneB t (((m : Nat) : Int)))]) := by kernel_rfl
theorem rd15_4 (bb o m c i : Nat) (x y z u t : Int) {M : Mem} (hM : MemOk M) (hld : aload Tryz.prog 62 ⟨bb, o + i * 5, none⟩ M = some (.agg ⟨[i64 x, i64 y, i64 z, i64 u, i64 t]⟩)) (cc0 : (decide ((((i : Nat) : Int)) < (((m : Nat) : Int)))) = true) (cc1 : (noneB x (((m : Nat) : Int))) = false) (cc2 : (noneB y (((m : Nat) : Int))) = false) (cc3 : (noneB z (((m : Nat) : Int))) = false) (cc4 : (noneB u (((m : Nat) : Int))) = false) (cc5 : (noneB t (((m : Nat) : Int))) = true) : ∃ T1 M', Rd Tryz.prog [] (q41.loopAt 0) Tryz.f41.ntmps (fr [(3, (i64 (((m : Nat) : Int)))), (25, (sli bb o m c)), (26, (i64 (((m : Nat) : Int)))), (27, (i64 (((i : Nat) : Int))))]) M .ret T1 M' ∧ [2].map T1.get = [some (.bool false)] ∧ Ext M M' ∧ MemOk M' := by
  obtain ⟨b1, M2, eb3, em4, g5, E6, hM7⟩ := new_t hM ⟨[(i64 0), (i64 0), (i64 0), (i64 0), (i64 0)], 62, 1, 0, true⟩
  have nb1 : M.next ≤ b1 := by rw [← eb3]; exact (Ext.refl M).next
  have X8 := (Ext.refl M).trans E6
  obtain ⟨M9, q10, g11, kp12, X13, hM14, nx15⟩ := store_t (o := 0) (v := (.agg ⟨[(i64 x), (i64 y), (i64 z), (i64 u), (i64 t)]⟩)) (new := [(i64 x), (i64 y), (i64 z), (i64 u), (i64 t)]) X8 nb1 hM7 dS62 g5 rfl rfl (Nat.zero_le _) (Nat.le_of_ble_eq_true rfl) rfl
  replace g11 : M9.get b1 = some ⟨[(i64 x), (i64 y), (i64 z), (i64 u), (i64 t)], 62, 1, 0, true⟩ := g11
  obtain ⟨w16, N17, M18, p19, l20, e21, E22, hM23, Q24, G25⟩ := call_t (P := Tryz.prog) (GL := []) (f := 68) hM14 (con68 x (((m : Nat) : Int)) (MemOk.log hM14))
  have g26 := E22.old g11
  have ew16 : w16 = (.bool (noneB x (((m : Nat) : Int)))) := (Option.some.inj Q24).symm
  subst ew16
  have X27 := X13.trans E22
  obtain ⟨w28, N29, M30, p31, l32, e33, E34, hM35, Q36, G37⟩ := call_t (P := Tryz.prog) (GL := []) (f := 68) hM23 (con68 y (((m : Nat) : Int)) (MemOk.log hM23))
  have g38 := E34.old g26
  have ew28 : w28 = (.bool (noneB y (((m : Nat) : Int)))) := (Option.some.inj Q36).symm
  subst ew28
  have X39 := X27.trans E34
  obtain ⟨w40, N41, M42, p43, l44, e45, E46, hM47, Q48, G49⟩ := call_t (P := Tryz.prog) (GL := []) (f := 68) hM35 (con68 z (((m : Nat) : Int)) (MemOk.log hM35))
  have g50 := E46.old g38
  have ew40 : w40 = (.bool (noneB z (((m : Nat) : Int)))) := (Option.some.inj Q48).symm
  subst ew40
  have X51 := X39.trans E46
  obtain ⟨w52, N53, M54, p55, l56, e57, E58, hM59, Q60, G61⟩ := call_t (P := Tryz.prog) (GL := []) (f := 68) hM47 (con68 u (((m : Nat) : Int)) (MemOk.log hM47))
  have g62 := E58.old g50
  have ew52 : w52 = (.bool (noneB u (((m : Nat) : Int)))) := (Option.some.inj Q60).symm
  subst ew52
  have X63 := X51.trans E58
  obtain ⟨w64, N65, M66, p67, l68, e69, E70, hM71, Q72, G73⟩ := call_t (P := Tryz.prog) (GL := []) (f := 68) hM59 (con68 t (((m : Nat) : Int)) (MemOk.log hM59))
  have g74 := E70.old g62
  have ew64 : w64 = (.bool (noneB t (((m : Nat) : Int)))) := (Option.some.inj Q72).symm
  subst ew64
  have X75 := X63.trans E70
  obtain ⟨T1, h1, h2⟩ := Rd.told noNumP mixedP (fun B => specsB_ok (k := []) (hS15_32 B) (fun p hp => by cases hp)) (fun _ _ => rfl) (rd15_4_raw bb o m c i x y z u t M b1 M2 M9 M18 M30 M42 M54 M66) (hk (bT cc0) (hk (q_inb (by omega) (by simp at cc0; omega)) (hk (q_ld (aload_ext (Ext.refl M) hld)) (hk (q_eq (by rw [← eb3, ← em4]; kernel_rfl) Nat.one_ne_zero) (hk (q_st q10) (hk (lA ⟨dA62, dS62⟩ g11 rfl) (hk (q_call rfl p19 l20 e21) (hk (bF cc1) (hk (q_call rfl p31 l32 e33) (hk (bF cc2) (hk (q_call rfl p43 l44 e45) (hk (bF cc3) (hk (q_call rfl p55 l56 e57) (hk (bF cc4) (hk (q_call rfl p67 l68 e69) (hk (bT cc5) hn))))))))))))))))
  exact ⟨T1, M66, h1, h2, X75, hM71⟩
theorem rd15_5_raw (bb o m c i : Nat) (x y z u t : Int) (M : Mem) (b1 : Nat) (M2 : Mem) (M9 : Mem) (M18 : Mem) (M30 : Mem) (M42 : Mem) (M54 : Mem) (M66 : Mem) : oR Tryz.prog [] 40 Tryz.f41 (q41.loopAt 0) [(3, (i64 (((m : Nat) : Int)))), (25, (sli bb o m c)), (26, (i64 (((m : Nat) : Int)))), (27, (i64 (((i : Nat) : Int))))] M [ttT 2, ttT 4, ttL 6 (.agg ⟨[(i64 x), (i64 y), (i64 z), (i64 u), (i64 t)]⟩), ttV 8 (pt b1 0) M2, ttS 10 M9, ttL 12 (.agg ⟨[(i64 x), (i64 y), (i64 z), (i64 u), (i64 t)]⟩), ttV 27 (.bool (noneB x (((m : Nat) : Int)))) M18, ttF 28, ttV 45 (.bool (noneB y (((m : Nat) : Int)))) M30, ttF 46, ttV 63 (.bool (noneB z (((m : Nat) : Int)))) M42, ttF 64, ttV 81 (.bool (noneB u (((m : Nat) : Int)))) M54, ttF 82, ttV 99 (.bool (noneB t (((m : Nat) : Int)))) M66, ttF 100] [3, 25, 26, 27] = some (.normal, [some (i64 (((m : Nat) : Int))), some (sli bb o m c), some (i64 (((m : Nat) : Int))), some (i64 (IntKind.wrap .i64 ((((i : Nat) : Int)) + (1 : Int))))], M66, [qT (decide ((((i : Nat) : Int)) < (((m : Nat) : Int)))), .q (.inb (((i : Nat) : Int)) m) (ansB true), qL 62 bb (o + (((i : Nat) : Int) : Int).toNat * 5) M (.agg ⟨[(i64 x), (i64 y), (i64 z), (i64 u), (i64 t)]⟩), .eq (aalloc Tryz.prog 62 M) (1, .val (pt b1 0), M2), qS 62 b1 0 (.agg ⟨[(i64 x), (i64 y), (i64 z), (i64 u), (i64 t)]⟩) M2 M9, qL 62 b1 0 M9 (.agg ⟨[(i64 x), (i64 y), (i64 z), (i64 u), (i64 t)]⟩), qC 68 [(i64 x), (i64 (((m : Nat) : Int)))] M9 (.bool (noneB x (((m : Nat) : Int)))) M18, qF (noneB x (((m : Nat) : Int))), qC 68 [(i64 y), (i64 (((m : Nat) : Int)))] M18 (.bool (noneB y (((m : Nat) : Int)))) M30, qF (noneB y (((m : Nat) : Int))), qC 68 [(i64 z), (i64 (((m : Nat) : Int)))] M30 (.bool (noneB z (((m : Nat) : Int)))) M42, qF (noneB z (((m : Nat) : Int))), qC 68 [(i64 u), (i64 (((m : Nat) : Int)))] M42 (.bool (noneB u (((m : Nat) : Int)))) M54, qF (noneB u (((m : Nat) : Int))), qC 68 [(i64 t), (i64 (((m : Nat) : Int)))] M54 (.bool (noneB t (((m : Nat) : Int)))) M66, qF (noneB t (((m : Nat) : Int)))]) := by kernel_rfl
theorem rd15_5 (bb o m c i : Nat) (x y z u t : Int) {M : Mem} (hM : MemOk M) (hld : aload Tryz.prog 62 ⟨bb, o + i * 5, none⟩ M = some (.agg ⟨[i64 x, i64 y, i64 z, i64 u, i64 t]⟩)) (cc0 : (decide ((((i : Nat) : Int)) < (((m : Nat) : Int)))) = true) (cc1 : (noneB x (((m : Nat) : Int))) = false) (cc2 : (noneB y (((m : Nat) : Int))) = false) (cc3 : (noneB z (((m : Nat) : Int))) = false) (cc4 : (noneB u (((m : Nat) : Int))) = false) (cc5 : (noneB t (((m : Nat) : Int))) = false) : ∃ T1 M', Rd Tryz.prog [] (q41.loopAt 0) Tryz.f41.ntmps (fr [(3, (i64 (((m : Nat) : Int)))), (25, (sli bb o m c)), (26, (i64 (((m : Nat) : Int)))), (27, (i64 (((i : Nat) : Int))))]) M .normal T1 M' ∧ [3, 25, 26, 27].map T1.get = [some (i64 (((m : Nat) : Int))), some (sli bb o m c), some (i64 (((m : Nat) : Int))), some (i64 (IntKind.wrap .i64 ((((i : Nat) : Int)) + (1 : Int))))] ∧ Ext M M' ∧ MemOk M' := by
  obtain ⟨b1, M2, eb3, em4, g5, E6, hM7⟩ := new_t hM ⟨[(i64 0), (i64 0), (i64 0), (i64 0), (i64 0)], 62, 1, 0, true⟩
  have nb1 : M.next ≤ b1 := by rw [← eb3]; exact (Ext.refl M).next
  have X8 := (Ext.refl M).trans E6
  obtain ⟨M9, q10, g11, kp12, X13, hM14, nx15⟩ := store_t (o := 0) (v := (.agg ⟨[(i64 x), (i64 y), (i64 z), (i64 u), (i64 t)]⟩)) (new := [(i64 x), (i64 y), (i64 z), (i64 u), (i64 t)]) X8 nb1 hM7 dS62 g5 rfl rfl (Nat.zero_le _) (Nat.le_of_ble_eq_true rfl) rfl
  replace g11 : M9.get b1 = some ⟨[(i64 x), (i64 y), (i64 z), (i64 u), (i64 t)], 62, 1, 0, true⟩ := g11
  obtain ⟨w16, N17, M18, p19, l20, e21, E22, hM23, Q24, G25⟩ := call_t (P := Tryz.prog) (GL := []) (f := 68) hM14 (con68 x (((m : Nat) : Int)) (MemOk.log hM14))
  have g26 := E22.old g11
  have ew16 : w16 = (.bool (noneB x (((m : Nat) : Int)))) := (Option.some.inj Q24).symm
  subst ew16
  have X27 := X13.trans E22
  obtain ⟨w28, N29, M30, p31, l32, e33, E34, hM35, Q36, G37⟩ := call_t (P := Tryz.prog) (GL := []) (f := 68) hM23 (con68 y (((m : Nat) : Int)) (MemOk.log hM23))
  have g38 := E34.old g26
  have ew28 : w28 = (.bool (noneB y (((m : Nat) : Int)))) := (Option.some.inj Q36).symm
  subst ew28
  have X39 := X27.trans E34
  obtain ⟨w40, N41, M42, p43, l44, e45, E46, hM47, Q48, G49⟩ := call_t (P := Tryz.prog) (GL := []) (f := 68) hM35 (con68 z (((m : Nat) : Int)) (MemOk.log hM35))
  have g50 := E46.old g38
  have ew40 : w40 = (.bool (noneB z (((m : Nat) : Int)))) := (Option.some.inj Q48).symm
  subst ew40
  have X51 := X39.trans E46
  obtain ⟨w52, N53, M54, p55, l56, e57, E58, hM59, Q60, G61⟩ := call_t (P := Tryz.prog) (GL := []) (f := 68) hM47 (con68 u (((m : Nat) : Int)) (MemOk.log hM47))
  have g62 := E58.old g50
  have ew52 : w52 = (.bool (noneB u (((m : Nat) : Int)))) := (Option.some.inj Q60).symm
  subst ew52
  have X63 := X51.trans E58
  obtain ⟨w64, N65, M66, p67, l68, e69, E70, hM71, Q72, G73⟩ := call_t (P := Tryz.prog) (GL := []) (f := 68) hM59 (con68 t (((m : Nat) : Int)) (MemOk.log hM59))
  have g74 := E70.old g62
  have ew64 : w64 = (.bool (noneB t (((m : Nat) : Int)))) := (Option.some.inj Q72).symm
  subst ew64
  have X75 := X63.trans E70
  obtain ⟨T1, h1, h2⟩ := Rd.told noNumP mixedP (fun B => specsB_ok (k := []) (hS15_32 B) (fun p hp => by cases hp)) (fun _ _ => rfl) (rd15_5_raw bb o m c i x y z u t M b1 M2 M9 M18 M30 M42 M54 M66) (hk (bT cc0) (hk (q_inb (by omega) (by simp at cc0; omega)) (hk (q_ld (aload_ext (Ext.refl M) hld)) (hk (q_eq (by rw [← eb3, ← em4]; kernel_rfl) Nat.one_ne_zero) (hk (q_st q10) (hk (lA ⟨dA62, dS62⟩ g11 rfl) (hk (q_call rfl p19 l20 e21) (hk (bF cc1) (hk (q_call rfl p31 l32 e33) (hk (bF cc2) (hk (q_call rfl p43 l44 e45) (hk (bF cc3) (hk (q_call rfl p55 l56 e57) (hk (bF cc4) (hk (q_call rfl p67 l68 e69) (hk (bF cc5) hn))))))))))))))))
  exact ⟨T1, M66, h1, h2, X75, hM71⟩
theorem rd15x_raw (a : Option Addr) (m c i : Nat) (M : Mem)  : oR Tryz.prog [] 40 Tryz.f41 (q41.loopAt 0) [(3, (i64 (((m : Nat) : Int)))), (25, (.slice a m c)), (26, (i64 (((m : Nat) : Int)))), (27, (i64 (((i : Nat) : Int))))] M [ttF 2] [3] = some ((.exit 0), [some (i64 (((m : Nat) : Int)))], M, [qF (decide ((((i : Nat) : Int)) < (((m : Nat) : Int))))]) := by kernel_rfl
theorem rd15x (a : Option Addr) (m c i : Nat) {M : Mem} (hM : MemOk M) (cc0 : (decide ((((i : Nat) : Int)) < (((m : Nat) : Int)))) = false) : ∃ T1 M', Rd Tryz.prog [] (q41.loopAt 0) Tryz.f41.ntmps (fr [(3, (i64 (((m : Nat) : Int)))), (25, (.slice a m c)), (26, (i64 (((m : Nat) : Int)))), (27, (i64 (((i : Nat) : Int))))]) M (.exit 0) T1 M' ∧ [3].map T1.get = [some (i64 (((m : Nat) : Int)))] ∧ Ext M M' ∧ MemOk M' := by
  obtain ⟨T1, h1, h2⟩ := Rd.told noNumP mixedP (specs_none Tryz.prog) (fun _ _ => rfl) (rd15x_raw a m c i M ) (hk (bF cc0) hn)
  exact ⟨T1, M, h1, h2, (Ext.refl M), hM⟩
theorem rd15n (bb o m c i : Nat) (x y z u t : Int) {M : Mem} (hM : MemOk M) (hld : aload Tryz.prog 62 ⟨bb, o + i * 5, none⟩ M = some (.agg ⟨[i64 x, i64 y, i64 z, i64 u, i64 t]⟩)) (cc0 : (decide (((i : Nat) : Int) < (((m : Nat) : Int)))) = true) (hq : badR ((m : Nat) : Int) [x, y, z, u, t] = false) : ∃ T1 M', Rd Tryz.prog [] (q41.loopAt 0) Tryz.f41.ntmps (fr [(3, (i64 (((m : Nat) : Int)))), (25, (sli bb o m c)), (26, (i64 (((m : Nat) : Int)))), (27, (i64 (((i : Nat) : Int))))]) M .normal T1 M' ∧ [3, 25, 26, 27].map T1.get = [some (i64 (((m : Nat) : Int))), some (sli bb o m c), some (i64 (((m : Nat) : Int))), some (i64 (IntKind.wrap .i64 ((((i : Nat) : Int)) + (1 : Int))))] ∧ Ext M M' ∧ MemOk M' := by
  cases cc1 : (noneB x (((m : Nat) : Int))) with
  | true =>
    simp [badR, cc1] at hq
  | false =>
    cases cc2 : (noneB y (((m : Nat) : Int))) with
    | true =>
      simp [badR, cc1, cc2] at hq
    | false =>
      cases cc3 : (noneB z (((m : Nat) : Int))) with
      | true =>
        simp [badR, cc1, cc2, cc3] at hq
      | false =>
        cases cc4 : (noneB u (((m : Nat) : Int))) with
        | true =>
          simp [badR, cc1, cc2, cc3, cc4] at hq
        | false =>
          cases cc5 : (noneB t (((m : Nat) : Int))) with
          | true =>
            simp [badR, cc1, cc2, cc3, cc4, cc5] at hq
          | false =>
            exact rd15_5 bb o m c i x y z u t hM hld cc0 cc1 cc2 cc3 cc4 cc5
theorem rd15r (bb o m c i : Nat) (x y z u t : Int) {M : Mem} (hM : MemOk M) (hld : aload Tryz.prog 62 ⟨bb, o + i * 5, none⟩ M = some (.agg ⟨[i64 x, i64 y, i64 z, i64 u, i64 t]⟩)) (cc0 : (decide (((i : Nat) : Int) < (((m : Nat) : Int)))) = true) (hq : badR ((m : Nat) : Int) [x, y, z, u, t] = true) : ∃ T1 M', Rd Tryz.prog [] (q41.loopAt 0) Tryz.f41.ntmps (fr [(3, (i64 (((m : Nat) : Int)))), (25, (sli bb o m c)), (26, (i64 (((m : Nat) : Int)))), (27, (i64 (((i : Nat) : Int))))]) M .ret T1 M' ∧ [2].map T1.get = [some (.bool false)] ∧ Ext M M' ∧ MemOk M' := by
  cases cc1 : (noneB x (((m : Nat) : Int))) with
  | true =>
    exact rd15_0 bb o m c i x y z u t hM hld cc0 cc1
  | false =>
    cases cc2 : (noneB y (((m : Nat) : Int))) with
    | true =>
      exact rd15_1 bb o m c i x y z u t hM hld cc0 cc1 cc2
    | false =>
      cases cc3 : (noneB z (((m : Nat) : Int))) with
      | true =>
        exact rd15_2 bb o m c i x y z u t hM hld cc0 cc1 cc2 cc3
      | false =>
        cases cc4 : (noneB u (((m : Nat) : Int))) with
        | true =>
          exact rd15_3 bb o m c i x y z u t hM hld cc0 cc1 cc2 cc3 cc4
        | false =>
          cases cc5 : (noneB t (((m : Nat) : Int))) with
          | true =>
            exact rd15_4 bb o m c i x y z u t hM hld cc0 cc1 cc2 cc3 cc4 cc5
          | false =>
            simp [badR, cc1, cc2, cc3, cc4, cc5] at hq
theorem loop15 {l : List (List Int)} {a : Option Addr} {c : Nat}  : ∀ (k i : Nat), i + k = l.length → ∀ {M : Mem}, MemOk M → FlatAt 5 M (.slice a l.length c) l → 
    ∃ M' e T', Go.Am.Ext M M' ∧ LoopR Tryz.prog [] (q41.loopAt 0) Tryz.f41.ntmps (fr [(3, (i64 (((l.length : Nat) : Int)))), (25, (.slice a l.length c)), (26, (i64 (((l.length : Nat) : Int)))), (27, (i64 (((i : Nat) : Int))))]) M e T' M' ∧
      (((l.drop i).any (badR ((l.length : Nat) : Int)) = false ∧ e = .exit 0 ∧ T' = fr [(3, (i64 (((l.length : Nat) : Int))))]) ∨ ((l.drop i).any (badR ((l.length : Nat) : Int)) = true ∧ e = .ret ∧ T' = fr [(2, .bool false)])) := by
  intro k
  induction k with
  | zero =>
    intro i hi M hM hs
    obtain ⟨T1, M1, h1, h2, h3, h4⟩ := rd15x a l.length c i hM (by simp; omega)
    refine ⟨M1, _, fr [(3, (i64 (((l.length : Nat) : Int))))], h3, LoopR.stop h1 (by simp) (TSub.fr (l := [(3, (i64 (((l.length : Nat) : Int))))]) h2), .inl ⟨?_, rfl, rfl⟩⟩
    rw [List.drop_eq_nil_of_le (by omega)]; rfl
  | succ k ih2 =>
    intro i hi M hM hs
    have hlen := hs.len
    have hlt : i < l.length := by omega
    rcases id hs.at_ with ⟨_, _, h0⟩ | ⟨bb, o, c', blk, pre, post, h1, h2⟩
    · omega
    cases h1
    obtain ⟨r, ht⟩ : ∃ r, l[i]? = some r := ⟨l[i], List.getElem?_eq_getElem hlt⟩
    have hdrop : l.drop i = r :: l.drop (i + 1) := by
      rw [List.drop_eq_getElem_cons hlt]
      rw [List.getElem?_eq_getElem hlt] at ht
      rw [Option.some.inj ht]
    obtain ⟨x, y, z, u, t, rfl⟩ := five_of (hs.wide _ (List.mem_of_getElem? ht))
    have hld := load_flat (P := Tryz.prog) (ty := 62) hs ht dA62 dS62
    have hc : decide ((((i : Nat) : Int)) < (((l.length : Nat) : Int))) = true := by simp; omega
    cases hq : badR ((l.length : Nat) : Int) [x, y, z, u, t] with
    | false =>
      obtain ⟨T1, M1, h1, h2, h3, h4⟩ := rd15n bb o l.length c i x y z u t hM hld hc hq
      rw [wrap_succ (by omega)] at h2
      obtain ⟨M2, e, T', q1, q2, q3⟩ := ih2 (i + 1) (by omega) h4 (hs.Ext h3)
      refine ⟨M2, e, T', h3.trans q1, LoopR.step h1 (TSub.fr (l := [(3, (i64 (((l.length : Nat) : Int)))), (25, (sli bb o l.length c)), (26, (i64 (((l.length : Nat) : Int)))), (27, (i64 (((i + 1 : Nat) : Int))))]) h2) q2, ?_⟩
      rw [hdrop]
      simp only [List.any_cons, hq, Bool.false_or]
      exact q3
    | true =>
      obtain ⟨T1, M1, h1, h2, h3, h4⟩ := rd15r bb o l.length c i x y z u t hM hld hc hq
      refine ⟨M1, _, _, h3, LoopR.stop h1 (by simp) (TSub.fr (l := [(2, .bool false)]) h2), .inr ⟨?_, rfl, rfl⟩⟩
      rw [hdrop]
      simp only [List.any_cons, hq, Bool.true_or]
theorem loop15_t {l : List (List Int)} {a : Option Addr} {c : Nat}  {M : Mem} (hM : MemOk M) (hs : FlatAt 5 M (.slice a l.length c) l) (h : l.any (badR ((l.length : Nat) : Int)) = false) :
    ∃ M', LoopR Tryz.prog [] (q41.loopAt 0) Tryz.f41.ntmps (fr [(3, (i64 (((l.length : Nat) : Int)))), (25, (.slice a l.length c)), (26, (i64 (((l.length : Nat) : Int)))), (27, (i64 0))]) M (.exit 0) (fr [(3, (i64 (((l.length : Nat) : Int))))]) M' ∧ Go.Am.Ext M M' ∧ MemOk M' := by
  obtain ⟨M', e, T', h1, h2, h3⟩ := loop15  l.length 0 (by omega) hM hs
  rw [List.drop_zero, h] at h3
  rcases h3 with ⟨_, rfl, rfl⟩ | ⟨h3, _⟩
  · exact ⟨M', h2, h1, hM.ext h1⟩
  · cases h3
theorem loop15_f {l : List (List Int)} {a : Option Addr} {c : Nat}  {M : Mem} (hM : MemOk M) (hs : FlatAt 5 M (.slice a l.length c) l) (h : l.any (badR ((l.length : Nat) : Int)) = true) :
    ∃ M', LoopR Tryz.prog [] (q41.loopAt 0) Tryz.f41.ntmps (fr [(3, (i64 (((l.length : Nat) : Int)))), (25, (.slice a l.length c)), (26, (i64 (((l.length : Nat) : Int)))), (27, (i64 0))]) M .ret (fr [(2, .bool false)]) M' ∧ Go.Am.Ext M M' ∧ MemOk M' := by
  obtain ⟨M', e, T', h1, h2, h3⟩ := loop15  l.length 0 (by omega) hM hs
  rw [List.drop_zero, h] at h3
  rcases h3 with ⟨h3, _⟩ | ⟨_, rfl, rfl⟩
  · cases h3
  · exact ⟨M', h2, h1, hM.ext h1⟩
theorem w15_0_raw (a1 : Option Addr) (c1 : Nat) (a2 : Option Addr) (c2 : Nat) (l1 : List (List Int)) (l2 : List Bool)  (M : Mem) (b1 : Nat) (M2 : Mem) : oT Tryz.prog [] 40 Tryz.f41 q41 [(.agg ⟨[(.slice a1 l1.length c1), (.slice a2 l2.length c2)]⟩)] M [ttV 1 (pt b1 0) M2, ttL 7 (.slice a1 l1.length c1), ttT 9, ttT 18, ttT 20, ttT 23] 2 = some (.ret, some (.bool false), M2, [.eq (abox Tryz.prog 27 (.agg ⟨[(.slice a1 l1.length c1), (.slice a2 l2.length c2)]⟩) M) (1, .val (pt b1 0), M2), qL 24 b1 0 M2 (.slice a1 l1.length c1), .ln a1 l1.length c1, qT (decide ((((l1.length : Nat) : Int)) < (1 : Int))), qT (decide ((((l1.length : Nat) : Int)) < (1 : Int))), qT (decide ((((l1.length : Nat) : Int)) < (1 : Int)))]) := by kernel_rfl
theorem w15_0 (a1 : Option Addr) (c1 : Nat) (a2 : Option Addr) (c2 : Nat) (l1 : List (List Int)) (l2 : List Bool)  {M : Mem} (hM : MemOk M) (hs1 : FlatAt 5 M (.slice a1 l1.length c1) l1) (hs2 : BoolsAt M (.slice a2 l2.length c2) l2) (cc0 : (decide ((((l1.length : Nat) : Int)) < (1 : Int))) = true) : ∃ M', Ev Tryz.prog [] 41 [(.agg ⟨[(.slice a1 l1.length c1), (.slice a2 l2.length c2)]⟩)] M (.bool false) M' ∧ Ext M M' := by
  obtain ⟨b1, M2, eb3, em4, g5, E6, hM7⟩ := new_t hM ⟨[(.slice a1 l1.length c1), (.slice a2 l2.length c2)], 27, 2, 0, true⟩
  have nb1 : M.next ≤ b1 := by rw [← eb3]; exact (Ext.refl M).next
  have X8 := (Ext.refl M).trans E6
  exact ⟨M2, Ev.told_tmp noNumP mixedP Tryz.func41 q41_ok (by kernel_rfl) rK15 (specs_none Tryz.prog) (fun _ _ => rfl) (w15_0_raw a1 c1 a2 c2 l1 l2 M b1 M2) (hk (q_eq (by rw [← eb3, ← em4]; kernel_rfl) Nat.one_ne_zero) (hk (lC dC24 g5 rfl) (hk (lN hs1.ln) (hk (bT cc0) (hk (bT cc0) (hk (bT cc0) hn)))))), X8⟩
theorem w15_1_raw (a1 : Option Addr) (c1 : Nat) (a2 : Option Addr) (c2 : Nat) (l1 : List (List Int)) (l2 : List Bool)  (M : Mem) (b1 : Nat) (M2 : Mem) : oT Tryz.prog [] 40 Tryz.f41 q41 [(.agg ⟨[(.slice a1 l1.length c1), (.slice a2 l2.length c2)]⟩)] M [ttV 1 (pt b1 0) M2, ttL 7 (.slice a1 l1.length c1), ttT 9, ttF 18, ttF 20, ttF 23, ttT 26, ttT 28, ttT 30, ttT 32, ttT 34, ttT 37] 2 = some (.ret, some (.bool false), M2, [.eq (abox Tryz.prog 27 (.agg ⟨[(.slice a1 l1.length c1), (.slice a2 l2.length c2)]⟩) M) (1, .val (pt b1 0), M2), qL 24 b1 0 M2 (.slice a1 l1.length c1), .ln a1 l1.length c1, qF (decide ((((l1.length : Nat) : Int)) < (1 : Int))), qF (decide ((((l1.length : Nat) : Int)) < (1 : Int))), qF (decide ((((l1.length : Nat) : Int)) < (1 : Int))), qT (decide ((((l1.length : Nat) : Int)) > (2000 : Int))), qT (decide ((((l1.length : Nat) : Int)) > (2000 : Int))), qT (decide ((((l1.length : Nat) : Int)) > (2000 : Int))), qT (decide ((((l1.length : Nat) : Int)) > (2000 : Int))), qT (decide ((((l1.length : Nat) : Int)) > (2000 : Int))), qT (decide ((((l1.length : Nat) : Int)) > (2000 : Int)))]) := by kernel_rfl
theorem w15_1 (a1 : Option Addr) (c1 : Nat) (a2 : Option Addr) (c2 : Nat) (l1 : List (List Int)) (l2 : List Bool)  {M : Mem} (hM : MemOk M) (hs1 : FlatAt 5 M (.slice a1 l1.length c1) l1) (hs2 : BoolsAt M (.slice a2 l2.length c2) l2) (cc0 : (decide ((((l1.length : Nat) : Int)) < (1 : Int))) = false) (cc1 : (decide ((((l1.length : Nat) : Int)) > (2000 : Int))) = true) : ∃ M', Ev Tryz.prog [] 41 [(.agg ⟨[(.slice a1 l1.length c1), (.slice a2 l2.length c2)]⟩)] M (.bool false) M' ∧ Ext M M' := by
  obtain ⟨b1, M2, eb3, em4, g5, E6, hM7⟩ := new_t hM ⟨[(.slice a1 l1.length c1), (.slice a2 l2.length c2)], 27, 2, 0, true⟩
  have nb1 : M.next ≤ b1 := by rw [← eb3]; exact (Ext.refl M).next
  have X8 := (Ext.refl M).trans E6
  exact ⟨M2, Ev.told_tmp noNumP mixedP Tryz.func41 q41_ok (by kernel_rfl) rK15 (specs_none Tryz.prog) (fun _ _ => rfl) (w15_1_raw a1 c1 a2 c2 l1 l2 M b1 M2) (hk (q_eq (by rw [← eb3, ← em4]; kernel_rfl) Nat.one_ne_zero) (hk (lC dC24 g5 rfl) (hk (lN hs1.ln) (hk (bF cc0) (hk (bF cc0) (hk (bF cc0) (hk (bT cc1) (hk (bT cc1) (hk (bT cc1) (hk (bT cc1) (hk (bT cc1) (hk (bT cc1) hn)))))))))))), X8⟩
theorem w15_2_raw (a1 : Option Addr) (c1 : Nat) (a2 : Option Addr) (c2 : Nat) (l1 : List (List Int)) (l2 : List Bool)  (M : Mem) (b1 : Nat) (M2 : Mem) (M9 : Mem) : oT Tryz.prog [0] 40 Tryz.f41 q41 [(.agg ⟨[(.slice a1 l1.length c1), (.slice a2 l2.length c2)]⟩)] M [ttV 1 (pt b1 0) M2, ttL 7 (.slice a1 l1.length c1), ttT 9, ttF 18, ttF 20, ttF 23, ttF 26, ttF 28, ttL 29 (.slice a2 l2.length c2), ttF 30, ttT 31, ttF 32, ttF 34, ttF 37, ttF 38, ttL 42 (.slice a1 l1.length c1), ttT 44, .blk 47 [3, 25, 26, 27] .ret (fr [(2, .bool false)]) M9] 2 = some (.ret, some (.bool false), M9, [.eq (abox Tryz.prog 27 (.agg ⟨[(.slice a1 l1.length c1), (.slice a2 l2.length c2)]⟩) M) (1, .val (pt b1 0), M2), qL 24 b1 0 M2 (.slice a1 l1.length c1), .ln a1 l1.length c1, qF (decide ((((l1.length : Nat) : Int)) < (1 : Int))), qF (decide ((((l1.length : Nat) : Int)) < (1 : Int))), qF (decide ((((l1.length : Nat) : Int)) < (1 : Int))), qF (decide ((((l1.length : Nat) : Int)) > (2000 : Int))), qF (decide ((((l1.length : Nat) : Int)) > (2000 : Int))), qL 25 b1 1 M2 (.slice a2 l2.length c2), qF (decide ((((l1.length : Nat) : Int)) > (2000 : Int))), .ln a2 l2.length c2, qF (decide ((((l1.length : Nat) : Int)) > (2000 : Int))), qF (decide ((((l1.length : Nat) : Int)) > (2000 : Int))), qF (decide ((((l1.length : Nat) : Int)) > (2000 : Int))), qF (!((((l2.length : Nat) : Int)) == (((l1.length : Nat) : Int)))), qL 24 b1 0 M2 (.slice a1 l1.length c1), .ln a1 l1.length c1, .blk 0 (.loop (q41.loopAt 0)) Tryz.f41.ntmps [3, 25, 26, 27] [some (i64 (((l1.length : Nat) : Int))), some (.slice a1 l1.length c1), some (i64 (((l1.length : Nat) : Int))), some (i64 0)] M2 .ret (fr [(2, .bool false)]) M9]) := by kernel_rfl
theorem w15_2 (a1 : Option Addr) (c1 : Nat) (a2 : Option Addr) (c2 : Nat) (l1 : List (List Int)) (l2 : List Bool)  {M : Mem} (hM : MemOk M) (hs1 : FlatAt 5 M (.slice a1 l1.length c1) l1) (hs2 : BoolsAt M (.slice a2 l2.length c2) l2) (cc0 : (decide ((((l1.length : Nat) : Int)) < (1 : Int))) = false) (cc1 : (decide ((((l1.length : Nat) : Int)) > (2000 : Int))) = false) (cc2 : ((((l2.length : Nat) : Int)) == (((l1.length : Nat) : Int))) = true) (cc3 : (l1.any (badR ((l1.length : Nat) : Int))) = true) : ∃ M', Ev Tryz.prog [] 41 [(.agg ⟨[(.slice a1 l1.length c1), (.slice a2 l2.length c2)]⟩)] M (.bool false) M' ∧ Ext M M' := by
  obtain ⟨b1, M2, eb3, em4, g5, E6, hM7⟩ := new_t hM ⟨[(.slice a1 l1.length c1), (.slice a2 l2.length c2)], 27, 2, 0, true⟩
  have nb1 : M.next ≤ b1 := by rw [← eb3]; exact (Ext.refl M).next
  have X8 := (Ext.refl M).trans E6
  obtain ⟨M9, hL10, E11, hM12⟩ := loop15_f hM7 (hs1.Ext X8) cc3
  have g13 := E11.old g5
  have X14 := X8.trans E11
  exact ⟨M9, Ev.told_tmp noNumP mixedP Tryz.func41 q41_ok (by kernel_rfl) rK15 (fun B => specsB_ok (l := []) (fun p hp => by cases hp) (k := [(0, bone (.loop (q41.loopAt 0)) Tryz.f41.ntmps [3, 25, 26, 27] [some (i64 (((l1.length : Nat) : Int))), some (.slice a1 l1.length c1), some (i64 (((l1.length : Nat) : Int))), some (i64 0)] M2 .ret (fr [(2, .bool false)]) M9)]) (fun p hp => by simp only [List.mem_cons, List.not_mem_nil, or_false] at hp; rcases hp with rfl <;> first | exact BlkOk.loop noNumP mixedP hL10)) (fun _ h => blksF_one h) (w15_2_raw a1 c1 a2 c2 l1 l2 M b1 M2 M9) (hk (q_eq (by rw [← eb3, ← em4]; kernel_rfl) Nat.one_ne_zero) (hk (lC dC24 g5 rfl) (hk (lN hs1.ln) (hk (bF cc0) (hk (bF cc0) (hk (bF cc0) (hk (bF cc1) (hk (bF cc1) (hk (lC dC25 g5 rfl) (hk (bF cc1) (hk (lN hs2.ln) (hk (bF cc1) (hk (bF cc1) (hk (bF cc1) (hk (bF (by rw [cc2]; rfl)) (hk (lC dC24 g5 rfl) (hk (lN hs1.ln) (hk (q_blk rfl) hn)))))))))))))))))), X14⟩
theorem w15_3_raw (a1 : Option Addr) (c1 : Nat) (a2 : Option Addr) (c2 : Nat) (l1 : List (List Int)) (l2 : List Bool)  (M : Mem) (b1 : Nat) (M2 : Mem) (M9 : Mem) : oT Tryz.prog [0] 40 Tryz.f41 q41 [(.agg ⟨[(.slice a1 l1.length c1), (.slice a2 l2.length c2)]⟩)] M [ttV 1 (pt b1 0) M2, ttL 7 (.slice a1 l1.length c1), ttT 9, ttF 18, ttF 20, ttF 23, ttF 26, ttF 28, ttL 29 (.slice a2 l2.length c2), ttF 30, ttT 31, ttF 32, ttF 34, ttF 37, ttF 38, ttL 42 (.slice a1 l1.length c1), ttT 44, .blk 47 [3, 25, 26, 27] .normal (fr [(3, (i64 (((l1.length : Nat) : Int))))]) M9] 2 = some (.ret, some (.bool true), M9, [.eq (abox Tryz.prog 27 (.agg ⟨[(.slice a1 l1.length c1), (.slice a2 l2.length c2)]⟩) M) (1, .val (pt b1 0), M2), qL 24 b1 0 M2 (.slice a1 l1.length c1), .ln a1 l1.length c1, qF (decide ((((l1.length : Nat) : Int)) < (1 : Int))), qF (decide ((((l1.length : Nat) : Int)) < (1 : Int))), qF (decide ((((l1.length : Nat) : Int)) < (1 : Int))), qF (decide ((((l1.length : Nat) : Int)) > (2000 : Int))), qF (decide ((((l1.length : Nat) : Int)) > (2000 : Int))), qL 25 b1 1 M2 (.slice a2 l2.length c2), qF (decide ((((l1.length : Nat) : Int)) > (2000 : Int))), .ln a2 l2.length c2, qF (decide ((((l1.length : Nat) : Int)) > (2000 : Int))), qF (decide ((((l1.length : Nat) : Int)) > (2000 : Int))), qF (decide ((((l1.length : Nat) : Int)) > (2000 : Int))), qF (!((((l2.length : Nat) : Int)) == (((l1.length : Nat) : Int)))), qL 24 b1 0 M2 (.slice a1 l1.length c1), .ln a1 l1.length c1, .blk 0 (.loop (q41.loopAt 0)) Tryz.f41.ntmps [3, 25, 26, 27] [some (i64 (((l1.length : Nat) : Int))), some (.slice a1 l1.length c1), some (i64 (((l1.length : Nat) : Int))), some (i64 0)] M2 .normal (fr [(3, (i64 (((l1.length : Nat) : Int))))]) M9]) := by kernel_rfl
theorem w15_3 (a1 : Option Addr) (c1 : Nat) (a2 : Option Addr) (c2 : Nat) (l1 : List (List Int)) (l2 : List Bool)  {M : Mem} (hM : MemOk M) (hs1 : FlatAt 5 M (.slice a1 l1.length c1) l1) (hs2 : BoolsAt M (.slice a2 l2.length c2) l2) (cc0 : (decide ((((l1.length : Nat) : Int)) < (1 : Int))) = false) (cc1 : (decide ((((l1.length : Nat) : Int)) > (2000 : Int))) = false) (cc2 : ((((l2.length : Nat) : Int)) == (((l1.length : Nat) : Int))) = true) (cc3 : (l1.any (badR ((l1.length : Nat) : Int))) = false) : ∃ M', Ev Tryz.prog [] 41 [(.agg ⟨[(.slice a1 l1.length c1), (.slice a2 l2.length c2)]⟩)] M (.bool true) M' ∧ Ext M M' := by
  obtain ⟨b1, M2, eb3, em4, g5, E6, hM7⟩ := new_t hM ⟨[(.slice a1 l1.length c1), (.slice a2 l2.length c2)], 27, 2, 0, true⟩
  have nb1 : M.next ≤ b1 := by rw [← eb3]; exact (Ext.refl M).next
  have X8 := (Ext.refl M).trans E6
  obtain ⟨M9, hL10, E11, hM12⟩ := loop15_t hM7 (hs1.Ext X8) cc3
  have g13 := E11.old g5
  have X14 := X8.trans E11
  exact ⟨M9, Ev.told_tmp noNumP mixedP Tryz.func41 q41_ok (by kernel_rfl) rK15 (fun B => specsB_ok (l := []) (fun p hp => by cases hp) (k := [(0, bone (.loop (q41.loopAt 0)) Tryz.f41.ntmps [3, 25, 26, 27] [some (i64 (((l1.length : Nat) : Int))), some (.slice a1 l1.length c1), some (i64 (((l1.length : Nat) : Int))), some (i64 0)] M2 .normal (fr [(3, (i64 (((l1.length : Nat) : Int))))]) M9)]) (fun p hp => by simp only [List.mem_cons, List.not_mem_nil, or_false] at hp; rcases hp with rfl <;> first | exact BlkOk.loop noNumP mixedP hL10)) (fun _ h => blksF_one h) (w15_3_raw a1 c1 a2 c2 l1 l2 M b1 M2 M9) (hk (q_eq (by rw [← eb3, ← em4]; kernel_rfl) Nat.one_ne_zero) (hk (lC dC24 g5 rfl) (hk (lN hs1.ln) (hk (bF cc0) (hk (bF cc0) (hk (bF cc0) (hk (bF cc1) (hk (bF cc1) (hk (lC dC25 g5 rfl) (hk (bF cc1) (hk (lN hs2.ln) (hk (bF cc1) (hk (bF cc1) (hk (bF cc1) (hk (bF (by rw [cc2]; rfl)) (hk (lC dC24 g5 rfl) (hk (lN hs1.ln) (hk (q_blk rfl) hn)))))))))))))))))), X14⟩
theorem w15_4_raw (a1 : Option Addr) (c1 : Nat) (a2 : Option Addr) (c2 : Nat) (l1 : List (List Int)) (l2 : List Bool)  (M : Mem) (b1 : Nat) (M2 : Mem) : oT Tryz.prog [] 40 Tryz.f41 q41 [(.agg ⟨[(.slice a1 l1.length c1), (.slice a2 l2.length c2)]⟩)] M [ttV 1 (pt b1 0) M2, ttL 7 (.slice a1 l1.length c1), ttT 9, ttF 18, ttF 20, ttF 23, ttF 26, ttF 28, ttL 29 (.slice a2 l2.length c2), ttF 30, ttT 31, ttF 32, ttF 34, ttF 37, ttT 38] 2 = some (.ret, some (.bool false), M2, [.eq (abox Tryz.prog 27 (.agg ⟨[(.slice a1 l1.length c1), (.slice a2 l2.length c2)]⟩) M) (1, .val (pt b1 0), M2), qL 24 b1 0 M2 (.slice a1 l1.length c1), .ln a1 l1.length c1, qF (decide ((((l1.length : Nat) : Int)) < (1 : Int))), qF (decide ((((l1.length : Nat) : Int)) < (1 : Int))), qF (decide ((((l1.length : Nat) : Int)) < (1 : Int))), qF (decide ((((l1.length : Nat) : Int)) > (2000 : Int))), qF (decide ((((l1.length : Nat) : Int)) > (2000 : Int))), qL 25 b1 1 M2 (.slice a2 l2.length c2), qF (decide ((((l1.length : Nat) : Int)) > (2000 : Int))), .ln a2 l2.length c2, qF (decide ((((l1.length : Nat) : Int)) > (2000 : Int))), qF (decide ((((l1.length : Nat) : Int)) > (2000 : Int))), qF (decide ((((l1.length : Nat) : Int)) > (2000 : Int))), qT (!((((l2.length : Nat) : Int)) == (((l1.length : Nat) : Int))))]) := by kernel_rfl
theorem w15_4 (a1 : Option Addr) (c1 : Nat) (a2 : Option Addr) (c2 : Nat) (l1 : List (List Int)) (l2 : List Bool)  {M : Mem} (hM : MemOk M) (hs1 : FlatAt 5 M (.slice a1 l1.length c1) l1) (hs2 : BoolsAt M (.slice a2 l2.length c2) l2) (cc0 : (decide ((((l1.length : Nat) : Int)) < (1 : Int))) = false) (cc1 : (decide ((((l1.length : Nat) : Int)) > (2000 : Int))) = false) (cc2 : ((((l2.length : Nat) : Int)) == (((l1.length : Nat) : Int))) = false) : ∃ M', Ev Tryz.prog [] 41 [(.agg ⟨[(.slice a1 l1.length c1), (.slice a2 l2.length c2)]⟩)] M (.bool false) M' ∧ Ext M M' := by
  obtain ⟨b1, M2, eb3, em4, g5, E6, hM7⟩ := new_t hM ⟨[(.slice a1 l1.length c1), (.slice a2 l2.length c2)], 27, 2, 0, true⟩
  have nb1 : M.next ≤ b1 := by rw [← eb3]; exact (Ext.refl M).next
  have X8 := (Ext.refl M).trans E6
  exact ⟨M2, Ev.told_tmp noNumP mixedP Tryz.func41 q41_ok (by kernel_rfl) rK15 (specs_none Tryz.prog) (fun _ _ => rfl) (w15_4_raw a1 c1 a2 c2 l1 l2 M b1 M2) (hk (q_eq (by rw [← eb3, ← em4]; kernel_rfl) Nat.one_ne_zero) (hk (lC dC24 g5 rfl) (hk (lN hs1.ln) (hk (bF cc0) (hk (bF cc0) (hk (bF cc0) (hk (bF cc1) (hk (bF cc1) (hk (lC dC25 g5 rfl) (hk (bF cc1) (hk (lN hs2.ln) (hk (bF cc1) (hk (bF cc1) (hk (bF cc1) (hk (bT (by rw [cc2]; rfl)) hn))))))))))))))), X8⟩
theorem w15_all (a1 : Option Addr) (c1 : Nat) (a2 : Option Addr) (c2 : Nat) (l1 : List (List Int)) (l2 : List Bool) {M : Mem} (hM : MemOk M) (hs1 : FlatAt 5 M (.slice a1 l1.length c1) l1) (hs2 : BoolsAt M (.slice a2 l2.length c2) l2) : ∃ M', Ev Tryz.prog [] 41 [(.agg ⟨[(.slice a1 l1.length c1), (.slice a2 l2.length c2)]⟩)] M (.bool (chkB l1 l2)) M' ∧ Ext M M' := by
  cases cc0 : (decide ((((l1.length : Nat) : Int)) < (1 : Int))) with
  | true =>
    have h := w15_0 a1 c1 a2 c2 l1 l2 hM hs1 hs2 cc0
    first | exact h | (have e : ((.bool (chkB l1 l2)) : Value) = (.bool false) := (by simp only [chkB, cc0, cond_true, cond_false, Bool.true_and, Bool.false_and, Bool.and_true, Bool.and_false, Bool.true_or, Bool.false_or, Bool.or_true, Bool.or_false, Bool.not_true, Bool.not_false] <;> rfl); rw [e]; exact h)
  | false =>
    cases cc1 : (decide ((((l1.length : Nat) : Int)) > (2000 : Int))) with
    | true =>
      have h := w15_1 a1 c1 a2 c2 l1 l2 hM hs1 hs2 cc0 cc1
      first | exact h | (have e : ((.bool (chkB l1 l2)) : Value) = (.bool false) := (by simp only [chkB, cc0, cc1, cond_true, cond_false, Bool.true_and, Bool.false_and, Bool.and_true, Bool.and_false, Bool.true_or, Bool.false_or, Bool.or_true, Bool.or_false, Bool.not_true, Bool.not_false] <;> rfl); rw [e]; exact h)
    | false =>
      cases cc2 : ((((l2.length : Nat) : Int)) == (((l1.length : Nat) : Int))) with
      | true =>
        cases cc3 : (l1.any (badR ((l1.length : Nat) : Int))) with
        | true =>
          have h := w15_2 a1 c1 a2 c2 l1 l2 hM hs1 hs2 cc0 cc1 cc2 cc3
          first | exact h | (have e : ((.bool (chkB l1 l2)) : Value) = (.bool false) := (by simp only [chkB, cc0, cc1, cc2, cc3, cond_true, cond_false, Bool.true_and, Bool.false_and, Bool.and_true, Bool.and_false, Bool.true_or, Bool.false_or, Bool.or_true, Bool.or_false, Bool.not_true, Bool.not_false] <;> rfl); rw [e]; exact h)
        | false =>
          have h := w15_3 a1 c1 a2 c2 l1 l2 hM hs1 hs2 cc0 cc1 cc2 cc3
          first | exact h | (have e : ((.bool (chkB l1 l2)) : Value) = (.bool true) := (by simp only [chkB, cc0, cc1, cc2, cc3, cond_true, cond_false, Bool.true_and, Bool.false_and, Bool.and_true, Bool.and_false, Bool.true_or, Bool.false_or, Bool.or_true, Bool.or_false, Bool.not_true, Bool.not_false] <;> rfl); rw [e]; exact h)
      | false =>
        have h := w15_4 a1 c1 a2 c2 l1 l2 hM hs1 hs2 cc0 cc1 cc2
        first | exact h | (have e : ((.bool (chkB l1 l2)) : Value) = (.bool false) := (by simp only [chkB, cc0, cc1, cc2, cond_true, cond_false, Bool.true_and, Bool.false_and, Bool.and_true, Bool.and_false, Bool.true_or, Bool.false_or, Bool.or_true, Bool.or_false, Bool.not_true, Bool.not_false] <;> rfl); rw [e]; exact h)
def Qchk : List Value → Mem → Value → Mem → Prop := fun args M v _ => ∃ x l1 l2, args = [x] ∧ DfaAt M x l1 l2 ∧ v = .bool (chkB l1 l2)
theorem Qchk.val {x : Value} {l1 : List (List Int)} {l2 : List Bool} {M M' : Mem} {v : Value} (h : DfaAt M x l1 l2) (hq : Qchk [x] M v M') : v = .bool (chkB l1 l2) := by
  obtain ⟨x', l1', l2', h1, h2, rfl⟩ := hq
  simp only [List.cons.injEq, and_true] at h1
  subst h1
  obtain ⟨rfl, rfl⟩ := h.unique h2
  rfl
theorem con41 {x : Value} {l1 : List (List Int)} {l2 : List Bool} {M : Mem} (hM : MemOk M) (h : DfaAt M x l1 l2) : ∃ v M', Con Tryz.prog [] 41 Qchk [x] M v M' := by
  have h0 := h
  obtain ⟨L1, L2, rfl, h2, h3⟩ := h.at_
  obtain ⟨a1, c1, rfl⟩ := h2.form
  obtain ⟨a2, c2, rfl⟩ := h3.form
  obtain ⟨M', k1, k2⟩ := w15_all a1 c1 a2 c2 l1 l2 hM h2 h3
  exact ⟨_, M', k1, k2, _, l1, l2, rfl, h0, rfl⟩
end Go.Proofs.YtchnlooenomfnaaGreatDoor
