/-
  Package adj: each of its laws for every argument; no conditions. The last text states which.
-/
import Derived.Test.YtipnhelkganmdaaUP2
open Go Go.Am Go.Proofs
namespace Go.Proofs.Ytipnhelkganmdaa
set_option maxRecDepth 100000
set_option linter.unusedVariables false
set_option linter.unusedSimpArgs false
theorem rK27 : Try.f27.results = #[.tmp 2] := by kernel_rfl
theorem w35_0_raw (e : E4) (M : Mem) (b1 : Nat) (M2 : Mem) : oT Try.prog [] 51 Try.f27 q27 [(.agg ⟨[(i64 e.f), (i64 e.t), (i64 e.m), (i64 e.c)]⟩)] M [ttV 1 (pt b1 0) M2, ttL 7 (i64 e.t)] 2 = some (.ret, some (i64 e.t), M2, [.eq (abox Try.prog 52 (.agg ⟨[(i64 e.f), (i64 e.t), (i64 e.m), (i64 e.c)]⟩) M) (1, .val (pt b1 0), M2), qL 3 b1 1 M2 (i64 e.t)]) := by kernel_rfl
theorem w35_0 (e : E4) {M : Mem} (hM : MemOk M) : ∃ v M', Ev Try.prog [] 27 [(.agg ⟨[(i64 e.f), (i64 e.t), (i64 e.m), (i64 e.c)]⟩)] M v M' ∧ Ext M M' ∧ MemOk M' ∧ v = (i64 e.t) := by
  obtain ⟨b1, M2, eb3, em4, g5, E6, hM7⟩ := new_t hM ⟨[(i64 e.f), (i64 e.t), (i64 e.m), (i64 e.c)], 52, 4, 0, true⟩
  have nb1 : M.next ≤ b1 := by rw [← eb3]; exact (Ext.refl M).next
  have nx8 := E6.next
  have X9 := (Ext.refl M).trans E6
  have hraw := w35_0_raw e M  b1 M2
  exact ⟨(i64 e.t), M2, Ev.told_tmp noNumP mixedP Try.func27 q27_ok (by kernel_rfl) rK27 (specs_none Try.prog) (fun _ _ => rfl) hraw (hk (q_eq (by rw [← eb3, ← em4]; kernel_rfl) Nat.one_ne_zero) (hk (lC dC3 g5 rfl) hn)), X9, hM7, rfl⟩
theorem w35_all (e : E4) {M : Mem} (hM : MemOk M) : ∃ v M', Ev Try.prog [] 27 [(.agg ⟨[(i64 e.f), (i64 e.t), (i64 e.m), (i64 e.c)]⟩)] M v M' ∧ Ext M M' ∧ MemOk M' ∧ v = i64 (e.t) := by
  obtain ⟨v, M1, h1, h2, h3, h4⟩ := w35_0 e hM  
  refine ⟨v, M1, h1, h2, h3, ?_⟩
  subst h4
  first | rfl | (simp only [cond_true, cond_false, Bool.true_and, Bool.false_and, Bool.and_true, Bool.and_false, Bool.true_or, Bool.false_or, Bool.or_true, Bool.or_false, Bool.not_true, Bool.not_false]; done) | (simp only [cond_true, cond_false, Bool.true_and, Bool.false_and, Bool.and_true, Bool.and_false, Bool.true_or, Bool.false_or, Bool.or_true, Bool.or_false, Bool.not_true, Bool.not_false] <;> rfl) | (simp_all []; done)
abbrev Q27 := FC (as1 pE) (plain pI) (fun x => x.t)
theorem con27 {e : (E4)} {lv : List Value} {M : Mem} (hM : MemOk M) (h : (as1 pE) e lv M) : ∃ v M', Con Try.prog [] 27 Q27 lv M v M' := by
  refine FC.con h ?_
  obtain ⟨g0, rfl, k0⟩ := h
  obtain rfl := k0
  obtain ⟨v, M', h1, h2, _, h3⟩ := w35_all e hM 
  exact ⟨v, M', h1, h2, h3⟩
theorem rK29 : Try.f29.results = #[.tmp 2] := by kernel_rfl
theorem w37_0_raw (e : E4) (M : Mem) (b1 : Nat) (M2 : Mem) : oT Try.prog [] 51 Try.f29 q29 [(.agg ⟨[(i64 e.f), (i64 e.t), (i64 e.m), (i64 e.c)]⟩)] M [ttV 1 (pt b1 0) M2, ttL 7 (i64 e.f)] 2 = some (.ret, some (i64 e.f), M2, [.eq (abox Try.prog 52 (.agg ⟨[(i64 e.f), (i64 e.t), (i64 e.m), (i64 e.c)]⟩) M) (1, .val (pt b1 0), M2), qL 3 b1 0 M2 (i64 e.f)]) := by kernel_rfl
theorem w37_0 (e : E4) {M : Mem} (hM : MemOk M) : ∃ v M', Ev Try.prog [] 29 [(.agg ⟨[(i64 e.f), (i64 e.t), (i64 e.m), (i64 e.c)]⟩)] M v M' ∧ Ext M M' ∧ MemOk M' ∧ v = (i64 e.f) := by
  obtain ⟨b1, M2, eb3, em4, g5, E6, hM7⟩ := new_t hM ⟨[(i64 e.f), (i64 e.t), (i64 e.m), (i64 e.c)], 52, 4, 0, true⟩
  have nb1 : M.next ≤ b1 := by rw [← eb3]; exact (Ext.refl M).next
  have nx8 := E6.next
  have X9 := (Ext.refl M).trans E6
  have hraw := w37_0_raw e M  b1 M2
  exact ⟨(i64 e.f), M2, Ev.told_tmp noNumP mixedP Try.func29 q29_ok (by kernel_rfl) rK29 (specs_none Try.prog) (fun _ _ => rfl) hraw (hk (q_eq (by rw [← eb3, ← em4]; kernel_rfl) Nat.one_ne_zero) (hk (lC dC3 g5 rfl) hn)), X9, hM7, rfl⟩
theorem w37_all (e : E4) {M : Mem} (hM : MemOk M) : ∃ v M', Ev Try.prog [] 29 [(.agg ⟨[(i64 e.f), (i64 e.t), (i64 e.m), (i64 e.c)]⟩)] M v M' ∧ Ext M M' ∧ MemOk M' ∧ v = i64 (e.f) := by
  obtain ⟨v, M1, h1, h2, h3, h4⟩ := w37_0 e hM  
  refine ⟨v, M1, h1, h2, h3, ?_⟩
  subst h4
  first | rfl | (simp only [cond_true, cond_false, Bool.true_and, Bool.false_and, Bool.and_true, Bool.and_false, Bool.true_or, Bool.false_or, Bool.or_true, Bool.or_false, Bool.not_true, Bool.not_false]; done) | (simp only [cond_true, cond_false, Bool.true_and, Bool.false_and, Bool.and_true, Bool.and_false, Bool.true_or, Bool.false_or, Bool.or_true, Bool.or_false, Bool.not_true, Bool.not_false] <;> rfl) | (simp_all []; done)
abbrev Q29 := FC (as1 pE) (plain pI) (fun x => x.f)
theorem con29 {e : (E4)} {lv : List Value} {M : Mem} (hM : MemOk M) (h : (as1 pE) e lv M) : ∃ v M', Con Try.prog [] 29 Q29 lv M v M' := by
  refine FC.con h ?_
  obtain ⟨g0, rfl, k0⟩ := h
  obtain rfl := k0
  obtain ⟨v, M', h1, h2, _, h3⟩ := w37_all e hM 
  exact ⟨v, M', h1, h2, h3⟩
theorem rK30 : Try.f30.results = #[.tmp 2] := by kernel_rfl
theorem w38_0_raw (f t c : Int) (M : Mem) (b1 : Nat) (M2 : Mem) : oT Try.prog [] 51 Try.f30 q30 [(.agg ⟨[i64 f, i64 t, i64 0, i64 c]⟩)] M [ttV 1 (pt b1 0) M2, ttL 7 (i64 0)] 2 = some (.ret, some (i64 1), M2, [.eq (abox Try.prog 52 (.agg ⟨[(i64 f), (i64 t), (i64 0), (i64 c)]⟩) M) (1, .val (pt b1 0), M2), qL 3 b1 2 M2 (i64 0)]) := by kernel_rfl
theorem w38_0 (f t c : Int) {M : Mem} (hM : MemOk M) : ∃ v M', Ev Try.prog [] 30 [(.agg ⟨[i64 f, i64 t, i64 0, i64 c]⟩)] M v M' ∧ Ext M M' ∧ MemOk M' ∧ v = (i64 1) := by
  obtain ⟨b1, M2, eb3, em4, g5, E6, hM7⟩ := new_t hM ⟨[(i64 f), (i64 t), (i64 0), (i64 c)], 52, 4, 0, true⟩
  have nb1 : M.next ≤ b1 := by rw [← eb3]; exact (Ext.refl M).next
  have nx8 := E6.next
  have X9 := (Ext.refl M).trans E6
  have hraw := w38_0_raw f t c M  b1 M2
  exact ⟨(i64 1), M2, Ev.told_tmp noNumP mixedP Try.func30 q30_ok (by kernel_rfl) rK30 (specs_none Try.prog) (fun _ _ => rfl) hraw (hk (q_eq (by rw [← eb3, ← em4]; kernel_rfl) Nat.one_ne_zero) (hk (lC dC3 g5 rfl) hn)), X9, hM7, rfl⟩
theorem w38_1_raw (f t c : Int) (M : Mem) (b1 : Nat) (M2 : Mem) : oT Try.prog [] 51 Try.f30 q30 [(.agg ⟨[i64 f, i64 t, i64 1, i64 c]⟩)] M [ttV 1 (pt b1 0) M2, ttL 7 (i64 1)] 2 = some (.ret, some (i64 2), M2, [.eq (abox Try.prog 52 (.agg ⟨[(i64 f), (i64 t), (i64 1), (i64 c)]⟩) M) (1, .val (pt b1 0), M2), qL 3 b1 2 M2 (i64 1)]) := by kernel_rfl
theorem w38_1 (f t c : Int) {M : Mem} (hM : MemOk M) : ∃ v M', Ev Try.prog [] 30 [(.agg ⟨[i64 f, i64 t, i64 1, i64 c]⟩)] M v M' ∧ Ext M M' ∧ MemOk M' ∧ v = (i64 2) := by
  obtain ⟨b1, M2, eb3, em4, g5, E6, hM7⟩ := new_t hM ⟨[(i64 f), (i64 t), (i64 1), (i64 c)], 52, 4, 0, true⟩
  have nb1 : M.next ≤ b1 := by rw [← eb3]; exact (Ext.refl M).next
  have nx8 := E6.next
  have X9 := (Ext.refl M).trans E6
  have hraw := w38_1_raw f t c M  b1 M2
  exact ⟨(i64 2), M2, Ev.told_tmp noNumP mixedP Try.func30 q30_ok (by kernel_rfl) rK30 (specs_none Try.prog) (fun _ _ => rfl) hraw (hk (q_eq (by rw [← eb3, ← em4]; kernel_rfl) Nat.one_ne_zero) (hk (lC dC3 g5 rfl) hn)), X9, hM7, rfl⟩
theorem w38_2_raw (f t c : Int) (M : Mem) (b1 : Nat) (M2 : Mem) : oT Try.prog [] 51 Try.f30 q30 [(.agg ⟨[i64 f, i64 t, i64 2, i64 c]⟩)] M [ttV 1 (pt b1 0) M2, ttL 7 (i64 2)] 2 = some (.ret, some (i64 4), M2, [.eq (abox Try.prog 52 (.agg ⟨[(i64 f), (i64 t), (i64 2), (i64 c)]⟩) M) (1, .val (pt b1 0), M2), qL 3 b1 2 M2 (i64 2)]) := by kernel_rfl
theorem w38_2 (f t c : Int) {M : Mem} (hM : MemOk M) : ∃ v M', Ev Try.prog [] 30 [(.agg ⟨[i64 f, i64 t, i64 2, i64 c]⟩)] M v M' ∧ Ext M M' ∧ MemOk M' ∧ v = (i64 4) := by
  obtain ⟨b1, M2, eb3, em4, g5, E6, hM7⟩ := new_t hM ⟨[(i64 f), (i64 t), (i64 2), (i64 c)], 52, 4, 0, true⟩
  have nb1 : M.next ≤ b1 := by rw [← eb3]; exact (Ext.refl M).next
  have nx8 := E6.next
  have X9 := (Ext.refl M).trans E6
  have hraw := w38_2_raw f t c M  b1 M2
  exact ⟨(i64 4), M2, Ev.told_tmp noNumP mixedP Try.func30 q30_ok (by kernel_rfl) rK30 (specs_none Try.prog) (fun _ _ => rfl) hraw (hk (q_eq (by rw [← eb3, ← em4]; kernel_rfl) Nat.one_ne_zero) (hk (lC dC3 g5 rfl) hn)), X9, hM7, rfl⟩
theorem w38_3_raw (f t c : Int) (M : Mem) (b1 : Nat) (M2 : Mem) : oT Try.prog [] 51 Try.f30 q30 [(.agg ⟨[i64 f, i64 t, i64 3, i64 c]⟩)] M [ttV 1 (pt b1 0) M2, ttL 7 (i64 3)] 2 = some (.ret, some (i64 8), M2, [.eq (abox Try.prog 52 (.agg ⟨[(i64 f), (i64 t), (i64 3), (i64 c)]⟩) M) (1, .val (pt b1 0), M2), qL 3 b1 2 M2 (i64 3)]) := by kernel_rfl
theorem w38_3 (f t c : Int) {M : Mem} (hM : MemOk M) : ∃ v M', Ev Try.prog [] 30 [(.agg ⟨[i64 f, i64 t, i64 3, i64 c]⟩)] M v M' ∧ Ext M M' ∧ MemOk M' ∧ v = (i64 8) := by
  obtain ⟨b1, M2, eb3, em4, g5, E6, hM7⟩ := new_t hM ⟨[(i64 f), (i64 t), (i64 3), (i64 c)], 52, 4, 0, true⟩
  have nb1 : M.next ≤ b1 := by rw [← eb3]; exact (Ext.refl M).next
  have nx8 := E6.next
  have X9 := (Ext.refl M).trans E6
  have hraw := w38_3_raw f t c M  b1 M2
  exact ⟨(i64 8), M2, Ev.told_tmp noNumP mixedP Try.func30 q30_ok (by kernel_rfl) rK30 (specs_none Try.prog) (fun _ _ => rfl) hraw (hk (q_eq (by rw [← eb3, ← em4]; kernel_rfl) Nat.one_ne_zero) (hk (lC dC3 g5 rfl) hn)), X9, hM7, rfl⟩
theorem w38_4_raw (f t c : Int) (M : Mem) (b1 : Nat) (M2 : Mem) : oT Try.prog [] 51 Try.f30 q30 [(.agg ⟨[i64 f, i64 t, i64 4, i64 c]⟩)] M [ttV 1 (pt b1 0) M2, ttL 7 (i64 4)] 2 = some (.ret, some (i64 16), M2, [.eq (abox Try.prog 52 (.agg ⟨[(i64 f), (i64 t), (i64 4), (i64 c)]⟩) M) (1, .val (pt b1 0), M2), qL 3 b1 2 M2 (i64 4)]) := by kernel_rfl
theorem w38_4 (f t c : Int) {M : Mem} (hM : MemOk M) : ∃ v M', Ev Try.prog [] 30 [(.agg ⟨[i64 f, i64 t, i64 4, i64 c]⟩)] M v M' ∧ Ext M M' ∧ MemOk M' ∧ v = (i64 16) := by
  obtain ⟨b1, M2, eb3, em4, g5, E6, hM7⟩ := new_t hM ⟨[(i64 f), (i64 t), (i64 4), (i64 c)], 52, 4, 0, true⟩
  have nb1 : M.next ≤ b1 := by rw [← eb3]; exact (Ext.refl M).next
  have nx8 := E6.next
  have X9 := (Ext.refl M).trans E6
  have hraw := w38_4_raw f t c M  b1 M2
  exact ⟨(i64 16), M2, Ev.told_tmp noNumP mixedP Try.func30 q30_ok (by kernel_rfl) rK30 (specs_none Try.prog) (fun _ _ => rfl) hraw (hk (q_eq (by rw [← eb3, ← em4]; kernel_rfl) Nat.one_ne_zero) (hk (lC dC3 g5 rfl) hn)), X9, hM7, rfl⟩
abbrev Q30 := FC (asP (as1 pE) okM) (plain pI) (fun x => setM x.m)
theorem con30 {e : E4} {lv : List Value} {M : Mem} (hM : MemOk M) (h : (asP (as1 pE) okM) e lv M) : ∃ v M', Con Try.prog [] 30 Q30 lv M v M' := by
  refine FC.con h ?_
  obtain ⟨h, h0, h5⟩ := h
  obtain ⟨g0, rfl, rfl⟩ := h
  obtain ⟨f, t, m, c⟩ := e
  simp only at h0 h5
  have hm : m = 0 ∨ m = 1 ∨ m = 2 ∨ m = 3 ∨ m = 4 := by omega
  rcases hm with rfl | rfl | rfl | rfl | rfl
  · obtain ⟨v, M', h1, h2, _, h4⟩ := w38_0 f t c hM
    exact ⟨v, M', h1, h2, h4⟩
  · obtain ⟨v, M', h1, h2, _, h4⟩ := w38_1 f t c hM
    exact ⟨v, M', h1, h2, h4⟩
  · obtain ⟨v, M', h1, h2, _, h4⟩ := w38_2 f t c hM
    exact ⟨v, M', h1, h2, h4⟩
  · obtain ⟨v, M', h1, h2, _, h4⟩ := w38_3 f t c hM
    exact ⟨v, M', h1, h2, h4⟩
  · obtain ⟨v, M', h1, h2, _, h4⟩ := w38_4 f t c hM
    exact ⟨v, M', h1, h2, h4⟩
def fnV : Tell → Value
  | .to => .func (.func 27) #[] #[]
  | .fr => .func (.func 29) #[] #[]
  | .set => .func (.func 30) #[] #[]
def pFn (k : Tell) (v : Value) (_ : Mem) : Prop := v = fnV k
instance : AP pFn := ⟨fun {x y _ _} h k => by unfold pFn at h k; rw [h] at k; cases x <;> cases y <;> first | rfl | (simp [fnV] at k), fun _ h => h⟩
theorem hS34_35 (B : Bd) : ∀ p ∈ ([(27, pick (Con Try.prog [] 27 Q27))] : List (FuncId × (List Value → Mem → Option (Value × Mem)))), SpecOk Try.prog [] B p.1 p.2 := (fun p hp => by simp only [List.mem_cons, List.not_mem_nil, or_false] at hp; rcases hp with rfl <;> first | exact Con.ok _)
theorem r34to_raw (r bb o m c i : Nat) (e : E4) (cr : List Value) (M : Mem) (b1 : Nat) (M2 : Mem) (M11 : Mem) (M21 : Mem) (M32 : Mem) : oR Try.prog [] 51 Try.f26 (q26.loopAt 0) [(1, (.func (.func 27) ⟨[]⟩ ⟨[]⟩)), (5, (sli r 0 m (m + 1))), (11, (sli bb o m c)), (12, (i64 (((m : Nat) : Int)))), (13, (i64 (((i : Nat) : Int))))] M [ttT 2, ttT 6, ttL 8 (.agg ⟨[(i64 e.f), (i64 e.t), (i64 e.m), (i64 e.c)]⟩), ttV 10 (pt b1 0) M2, ttS 14 M11, ttL 22 (.agg ⟨[(i64 e.f), (i64 e.t), (i64 e.m), (i64 e.c)]⟩), ttV 24 (i64 e.t) M21, ttT 26, ttS 28 M32] [1, 5, 11, 12, 13] = some (.normal, [some (.func (.func 27) ⟨[]⟩ ⟨[]⟩), some (sli r 0 m (m + 1)), some (sli bb o m c), some (i64 (((m : Nat) : Int))), some (i64 (IntKind.wrap .i64 ((((i : Nat) : Int)) + (1 : Int))))], M32, [qT (decide ((((i : Nat) : Int)) < (((m : Nat) : Int)))), .q (.inb (((i : Nat) : Int)) m) (ansB true), qL 32 bb (o + (((i : Nat) : Int) : Int).toNat * 4) M (.agg ⟨[(i64 e.f), (i64 e.t), (i64 e.m), (i64 e.c)]⟩), .eq (aalloc Try.prog 32 M) (1, .val (pt b1 0), M2), qS 32 b1 0 (.agg ⟨[(i64 e.f), (i64 e.t), (i64 e.m), (i64 e.c)]⟩) M2 M11, qL 32 b1 0 M11 (.agg ⟨[(i64 e.f), (i64 e.t), (i64 e.m), (i64 e.c)]⟩), qC 27 [(.agg ⟨[(i64 e.f), (i64 e.t), (i64 e.m), (i64 e.c)]⟩)] M11 (i64 e.t) M21, .q (.inb (((i : Nat) : Int)) m) (ansB true), qS 3 r (0 + (((i : Nat) : Int) : Int).toNat * 1) (i64 e.t) M21 M32]) := by kernel_rfl
theorem r34to (r bb o m c i : Nat) (e : E4) (cr : List Value) {M M0 : Mem} (hM : MemOk M) (X0 : Ext M0 M) (hr : M0.next ≤ r) (gr : M.get r = some ⟨cr, 3, 1, 0, true⟩) (cc0 : (decide ((((i : Nat) : Int)) < (((m : Nat) : Int)))) = true) (hld0 : aload Try.prog 32 ⟨bb, o + (((i : Nat) : Int) : Int).toNat * 4, none⟩ M0 = some (.agg ⟨[(i64 e.f), (i64 e.t), (i64 e.m), (i64 e.c)]⟩)) (hof1 : 0 + (((i : Nat) : Int) : Int).toNat * 1 + 1 ≤ (cr).length) : ∃ T1 M', Rd Try.prog [] (q26.loopAt 0) Try.f26.ntmps (fr [(1, (.func (.func 27) ⟨[]⟩ ⟨[]⟩)), (5, (sli r 0 m (m + 1))), (11, (sli bb o m c)), (12, (i64 (((m : Nat) : Int)))), (13, (i64 (((i : Nat) : Int))))]) M .normal T1 M' ∧ [1, 5, 11, 12, 13].map T1.get = [some (.func (.func 27) ⟨[]⟩ ⟨[]⟩), some (sli r 0 m (m + 1)), some (sli bb o m c), some (i64 (((m : Nat) : Int))), some (i64 (IntKind.wrap .i64 ((((i : Nat) : Int)) + (1 : Int))))] ∧ Ext M0 M' ∧ MemOk M' ∧ M'.get r = some ⟨(splice cr (0 + (((i : Nat) : Int) : Int).toNat * 1) [(i64 e.t)]), 3, 1, 0, true⟩ ∧ ∀ id k, M.get id = some k → id ≠ r → M'.get id = some k := by
  obtain ⟨b1, M2, eb3, em4, g5, E6, hM7⟩ := new_t hM ⟨[(i64 0), (i64 0), (i64 0), (i64 0)], 32, 4, 0, true⟩
  have nb1 : M0.next ≤ b1 := by rw [← eb3]; exact X0.next
  have drb1 : r ≠ b1 := by have := Mem.lt_of_get gr; omega
  have g8 := E6.old gr
  have nx9 := E6.next
  have X10 := X0.trans E6
  obtain ⟨M11, q12, g13, kp14, X15, hM16, nx17⟩ := store_t (o := 0) (v := (.agg ⟨[(i64 e.f), (i64 e.t), (i64 e.m), (i64 e.c)]⟩)) (new := [(i64 e.f), (i64 e.t), (i64 e.m), (i64 e.c)]) X10 nb1 hM7 dS32 g5 rfl rfl (Nat.zero_le _) (Nat.le_of_ble_eq_true rfl) rfl
  replace g13 : M11.get b1 = some ⟨[(i64 e.f), (i64 e.t), (i64 e.m), (i64 e.c)], 32, 4, 0, true⟩ := g13
  have g18 := (kp14 _ drb1).trans g8
  have ltrM21 := Mem.lt_of_get g18
  have ltb1M21 := Mem.lt_of_get g13
  obtain ⟨w19, N20, M21, p22, l23, e24, E25, hM26, F27⟩ := call_fc (x := e) hM16 con27 (⟨_, rfl, rfl⟩)
  have nx28 := E25.next
  have g29 := E25.old g18
  have g30 := E25.old g13
  have ew19 : w19 = (i64 e.t) := F27
  subst ew19
  have X31 := X15.trans E25
  obtain ⟨M32, q33, g34, kp35, X36, hM37, nx38⟩ := store_t (o := 0 + (((i : Nat) : Int) : Int).toNat * 1) (v := (i64 e.t)) (new := splice cr (0 + (((i : Nat) : Int) : Int).toNat * 1) [(i64 e.t)]) X31 hr hM26 dS3 g29 rfl rfl (Nat.zero_le _) hof1 rfl
  replace g34 : M32.get r = some ⟨splice cr (0 + (((i : Nat) : Int) : Int).toNat * 1) [(i64 e.t)], 3, 1, 0, true⟩ := g34
  have g39 := (kp35 _ (Ne.symm drb1)).trans g30
  have hraw := r34to_raw r bb o m c i e cr M  b1 M2 M11 M21 M32
  have hkp : ∀ id k, M.get id = some k → id ≠ r → M32.get id = some k := fun id k g h_r => by
    have g0 := Mem.lt_of_get g
    have g := E6.old g
    have g := ((fun id h _ => kp14 id h) id (by omega) (Mem.lt_of_get g)).trans g
    have g := E25.old g
    have g := ((fun id h _ => kp35 id h) id h_r (Mem.lt_of_get g)).trans g
    exact g
  obtain ⟨T1, h1, h2⟩ := Rd.told noNumP mixedP (fun B => specsB_ok (k := []) (hS34_35 B) (fun p hp => by cases hp)) (fun _ _ => rfl) hraw (hk (bT cc0) (hk (q_inb (by omega) (by simp at cc0; omega)) (hk (q_ld (aload_ext X0 hld0)) (hk (q_eq (by rw [← eb3, ← em4]; kernel_rfl) Nat.one_ne_zero) (hk (q_st q12) (hk (lA ⟨dA32, dS32⟩ g13 rfl) (hk (q_call rfl p22 l23 e24) (hk (q_inb (by omega) (by simp at cc0; omega)) (hk (q_st q33) hn)))))))))
  exact ⟨T1, M32, h1, h2, X36, hM37, g34, hkp⟩
theorem r34x_raw (fv : Value) (r : Nat) (a : Option Addr) (m c i : Nat) (M : Mem)  : oR Try.prog [] 51 Try.f26 (q26.loopAt 0) [(1, fv), (5, (sli r 0 m (m + 1))), (11, (.slice a m c)), (12, (i64 (((m : Nat) : Int)))), (13, (i64 (((i : Nat) : Int))))] M [ttF 2] [5] = some ((.exit 0), [some (sli r 0 m (m + 1))], M, [qF (decide ((((i : Nat) : Int)) < (((m : Nat) : Int))))]) := by kernel_rfl
theorem r34x (fv : Value) (r : Nat) (a : Option Addr) (m c i : Nat) {M : Mem} (cc0 : (decide ((((i : Nat) : Int)) < (((m : Nat) : Int)))) = false) : ∃ T1, Rd Try.prog [] (q26.loopAt 0) Try.f26.ntmps (fr [(1, fv), (5, (sli r 0 m (m + 1))), (11, (.slice a m c)), (12, (i64 (((m : Nat) : Int)))), (13, (i64 (((i : Nat) : Int))))]) M (.exit 0) T1 M ∧ [5].map T1.get = [some (sli r 0 m (m + 1))] := by
  have hraw := r34x_raw fv r a m c i M  
  obtain ⟨T1, h1, h2⟩ := Rd.told noNumP mixedP (specs_none Try.prog) (fun _ _ => rfl) hraw (hk (bF cc0) hn)
  exact ⟨T1, h1, h2⟩
theorem hS34_37 (B : Bd) : ∀ p ∈ ([(29, pick (Con Try.prog [] 29 Q29))] : List (FuncId × (List Value → Mem → Option (Value × Mem)))), SpecOk Try.prog [] B p.1 p.2 := (fun p hp => by simp only [List.mem_cons, List.not_mem_nil, or_false] at hp; rcases hp with rfl <;> first | exact Con.ok _)
theorem r34fr_raw (r bb o m c i : Nat) (e : E4) (cr : List Value) (M : Mem) (b1 : Nat) (M2 : Mem) (M11 : Mem) (M21 : Mem) (M32 : Mem) : oR Try.prog [] 51 Try.f26 (q26.loopAt 0) [(1, (.func (.func 29) ⟨[]⟩ ⟨[]⟩)), (5, (sli r 0 m (m + 1))), (11, (sli bb o m c)), (12, (i64 (((m : Nat) : Int)))), (13, (i64 (((i : Nat) : Int))))] M [ttT 2, ttT 6, ttL 8 (.agg ⟨[(i64 e.f), (i64 e.t), (i64 e.m), (i64 e.c)]⟩), ttV 10 (pt b1 0) M2, ttS 14 M11, ttL 22 (.agg ⟨[(i64 e.f), (i64 e.t), (i64 e.m), (i64 e.c)]⟩), ttV 24 (i64 e.f) M21, ttT 26, ttS 28 M32] [1, 5, 11, 12, 13] = some (.normal, [some (.func (.func 29) ⟨[]⟩ ⟨[]⟩), some (sli r 0 m (m + 1)), some (sli bb o m c), some (i64 (((m : Nat) : Int))), some (i64 (IntKind.wrap .i64 ((((i : Nat) : Int)) + (1 : Int))))], M32, [qT (decide ((((i : Nat) : Int)) < (((m : Nat) : Int)))), .q (.inb (((i : Nat) : Int)) m) (ansB true), qL 32 bb (o + (((i : Nat) : Int) : Int).toNat * 4) M (.agg ⟨[(i64 e.f), (i64 e.t), (i64 e.m), (i64 e.c)]⟩), .eq (aalloc Try.prog 32 M) (1, .val (pt b1 0), M2), qS 32 b1 0 (.agg ⟨[(i64 e.f), (i64 e.t), (i64 e.m), (i64 e.c)]⟩) M2 M11, qL 32 b1 0 M11 (.agg ⟨[(i64 e.f), (i64 e.t), (i64 e.m), (i64 e.c)]⟩), qC 29 [(.agg ⟨[(i64 e.f), (i64 e.t), (i64 e.m), (i64 e.c)]⟩)] M11 (i64 e.f) M21, .q (.inb (((i : Nat) : Int)) m) (ansB true), qS 3 r (0 + (((i : Nat) : Int) : Int).toNat * 1) (i64 e.f) M21 M32]) := by kernel_rfl
theorem r34fr (r bb o m c i : Nat) (e : E4) (cr : List Value) {M M0 : Mem} (hM : MemOk M) (X0 : Ext M0 M) (hr : M0.next ≤ r) (gr : M.get r = some ⟨cr, 3, 1, 0, true⟩) (cc0 : (decide ((((i : Nat) : Int)) < (((m : Nat) : Int)))) = true) (hld0 : aload Try.prog 32 ⟨bb, o + (((i : Nat) : Int) : Int).toNat * 4, none⟩ M0 = some (.agg ⟨[(i64 e.f), (i64 e.t), (i64 e.m), (i64 e.c)]⟩)) (hof1 : 0 + (((i : Nat) : Int) : Int).toNat * 1 + 1 ≤ (cr).length) : ∃ T1 M', Rd Try.prog [] (q26.loopAt 0) Try.f26.ntmps (fr [(1, (.func (.func 29) ⟨[]⟩ ⟨[]⟩)), (5, (sli r 0 m (m + 1))), (11, (sli bb o m c)), (12, (i64 (((m : Nat) : Int)))), (13, (i64 (((i : Nat) : Int))))]) M .normal T1 M' ∧ [1, 5, 11, 12, 13].map T1.get = [some (.func (.func 29) ⟨[]⟩ ⟨[]⟩), some (sli r 0 m (m + 1)), some (sli bb o m c), some (i64 (((m : Nat) : Int))), some (i64 (IntKind.wrap .i64 ((((i : Nat) : Int)) + (1 : Int))))] ∧ Ext M0 M' ∧ MemOk M' ∧ M'.get r = some ⟨(splice cr (0 + (((i : Nat) : Int) : Int).toNat * 1) [(i64 e.f)]), 3, 1, 0, true⟩ ∧ ∀ id k, M.get id = some k → id ≠ r → M'.get id = some k := by
  obtain ⟨b1, M2, eb3, em4, g5, E6, hM7⟩ := new_t hM ⟨[(i64 0), (i64 0), (i64 0), (i64 0)], 32, 4, 0, true⟩
  have nb1 : M0.next ≤ b1 := by rw [← eb3]; exact X0.next
  have drb1 : r ≠ b1 := by have := Mem.lt_of_get gr; omega
  have g8 := E6.old gr
  have nx9 := E6.next
  have X10 := X0.trans E6
  obtain ⟨M11, q12, g13, kp14, X15, hM16, nx17⟩ := store_t (o := 0) (v := (.agg ⟨[(i64 e.f), (i64 e.t), (i64 e.m), (i64 e.c)]⟩)) (new := [(i64 e.f), (i64 e.t), (i64 e.m), (i64 e.c)]) X10 nb1 hM7 dS32 g5 rfl rfl (Nat.zero_le _) (Nat.le_of_ble_eq_true rfl) rfl
  replace g13 : M11.get b1 = some ⟨[(i64 e.f), (i64 e.t), (i64 e.m), (i64 e.c)], 32, 4, 0, true⟩ := g13
  have g18 := (kp14 _ drb1).trans g8
  have ltrM21 := Mem.lt_of_get g18
  have ltb1M21 := Mem.lt_of_get g13
  obtain ⟨w19, N20, M21, p22, l23, e24, E25, hM26, F27⟩ := call_fc (x := e) hM16 con29 (⟨_, rfl, rfl⟩)
  have nx28 := E25.next
  have g29 := E25.old g18
  have g30 := E25.old g13
  have ew19 : w19 = (i64 e.f) := F27
  subst ew19
  have X31 := X15.trans E25
  obtain ⟨M32, q33, g34, kp35, X36, hM37, nx38⟩ := store_t (o := 0 + (((i : Nat) : Int) : Int).toNat * 1) (v := (i64 e.f)) (new := splice cr (0 + (((i : Nat) : Int) : Int).toNat * 1) [(i64 e.f)]) X31 hr hM26 dS3 g29 rfl rfl (Nat.zero_le _) hof1 rfl
  replace g34 : M32.get r = some ⟨splice cr (0 + (((i : Nat) : Int) : Int).toNat * 1) [(i64 e.f)], 3, 1, 0, true⟩ := g34
  have g39 := (kp35 _ (Ne.symm drb1)).trans g30
  have hraw := r34fr_raw r bb o m c i e cr M  b1 M2 M11 M21 M32
  have hkp : ∀ id k, M.get id = some k → id ≠ r → M32.get id = some k := fun id k g h_r => by
    have g0 := Mem.lt_of_get g
    have g := E6.old g
    have g := ((fun id h _ => kp14 id h) id (by omega) (Mem.lt_of_get g)).trans g
    have g := E25.old g
    have g := ((fun id h _ => kp35 id h) id h_r (Mem.lt_of_get g)).trans g
    exact g
  obtain ⟨T1, h1, h2⟩ := Rd.told noNumP mixedP (fun B => specsB_ok (k := []) (hS34_37 B) (fun p hp => by cases hp)) (fun _ _ => rfl) hraw (hk (bT cc0) (hk (q_inb (by omega) (by simp at cc0; omega)) (hk (q_ld (aload_ext X0 hld0)) (hk (q_eq (by rw [← eb3, ← em4]; kernel_rfl) Nat.one_ne_zero) (hk (q_st q12) (hk (lA ⟨dA32, dS32⟩ g13 rfl) (hk (q_call rfl p22 l23 e24) (hk (q_inb (by omega) (by simp at cc0; omega)) (hk (q_st q33) hn)))))))))
  exact ⟨T1, M32, h1, h2, X36, hM37, g34, hkp⟩
theorem hS34_38 (B : Bd) : ∀ p ∈ ([(30, pick (Con Try.prog [] 30 Q30))] : List (FuncId × (List Value → Mem → Option (Value × Mem)))), SpecOk Try.prog [] B p.1 p.2 := (fun p hp => by simp only [List.mem_cons, List.not_mem_nil, or_false] at hp; rcases hp with rfl <;> first | exact Con.ok _)
theorem r34set_raw (r bb o m c i : Nat) (e : E4) (cr : List Value) (M : Mem) (b1 : Nat) (M2 : Mem) (M11 : Mem) (M21 : Mem) (M32 : Mem) : oR Try.prog [] 51 Try.f26 (q26.loopAt 0) [(1, (.func (.func 30) ⟨[]⟩ ⟨[]⟩)), (5, (sli r 0 m (m + 1))), (11, (sli bb o m c)), (12, (i64 (((m : Nat) : Int)))), (13, (i64 (((i : Nat) : Int))))] M [ttT 2, ttT 6, ttL 8 (.agg ⟨[(i64 e.f), (i64 e.t), (i64 e.m), (i64 e.c)]⟩), ttV 10 (pt b1 0) M2, ttS 14 M11, ttL 22 (.agg ⟨[(i64 e.f), (i64 e.t), (i64 e.m), (i64 e.c)]⟩), ttV 24 (i64 (setM e.m)) M21, ttT 26, ttS 28 M32] [1, 5, 11, 12, 13] = some (.normal, [some (.func (.func 30) ⟨[]⟩ ⟨[]⟩), some (sli r 0 m (m + 1)), some (sli bb o m c), some (i64 (((m : Nat) : Int))), some (i64 (IntKind.wrap .i64 ((((i : Nat) : Int)) + (1 : Int))))], M32, [qT (decide ((((i : Nat) : Int)) < (((m : Nat) : Int)))), .q (.inb (((i : Nat) : Int)) m) (ansB true), qL 32 bb (o + (((i : Nat) : Int) : Int).toNat * 4) M (.agg ⟨[(i64 e.f), (i64 e.t), (i64 e.m), (i64 e.c)]⟩), .eq (aalloc Try.prog 32 M) (1, .val (pt b1 0), M2), qS 32 b1 0 (.agg ⟨[(i64 e.f), (i64 e.t), (i64 e.m), (i64 e.c)]⟩) M2 M11, qL 32 b1 0 M11 (.agg ⟨[(i64 e.f), (i64 e.t), (i64 e.m), (i64 e.c)]⟩), qC 30 [(.agg ⟨[(i64 e.f), (i64 e.t), (i64 e.m), (i64 e.c)]⟩)] M11 (i64 (setM e.m)) M21, .q (.inb (((i : Nat) : Int)) m) (ansB true), qS 3 r (0 + (((i : Nat) : Int) : Int).toNat * 1) (i64 (setM e.m)) M21 M32]) := by kernel_rfl
theorem r34set (r bb o m c i : Nat) (e : E4) (cr : List Value) {M M0 : Mem} (hM : MemOk M) (X0 : Ext M0 M) (hr : M0.next ≤ r) (gr : M.get r = some ⟨cr, 3, 1, 0, true⟩) (hok : okM e) (cc0 : (decide ((((i : Nat) : Int)) < (((m : Nat) : Int)))) = true) (hld0 : aload Try.prog 32 ⟨bb, o + (((i : Nat) : Int) : Int).toNat * 4, none⟩ M0 = some (.agg ⟨[(i64 e.f), (i64 e.t), (i64 e.m), (i64 e.c)]⟩)) (hof1 : 0 + (((i : Nat) : Int) : Int).toNat * 1 + 1 ≤ (cr).length) : ∃ T1 M', Rd Try.prog [] (q26.loopAt 0) Try.f26.ntmps (fr [(1, (.func (.func 30) ⟨[]⟩ ⟨[]⟩)), (5, (sli r 0 m (m + 1))), (11, (sli bb o m c)), (12, (i64 (((m : Nat) : Int)))), (13, (i64 (((i : Nat) : Int))))]) M .normal T1 M' ∧ [1, 5, 11, 12, 13].map T1.get = [some (.func (.func 30) ⟨[]⟩ ⟨[]⟩), some (sli r 0 m (m + 1)), some (sli bb o m c), some (i64 (((m : Nat) : Int))), some (i64 (IntKind.wrap .i64 ((((i : Nat) : Int)) + (1 : Int))))] ∧ Ext M0 M' ∧ MemOk M' ∧ M'.get r = some ⟨(splice cr (0 + (((i : Nat) : Int) : Int).toNat * 1) [(i64 (setM e.m))]), 3, 1, 0, true⟩ ∧ ∀ id k, M.get id = some k → id ≠ r → M'.get id = some k := by
  obtain ⟨b1, M2, eb3, em4, g5, E6, hM7⟩ := new_t hM ⟨[(i64 0), (i64 0), (i64 0), (i64 0)], 32, 4, 0, true⟩
  have nb1 : M0.next ≤ b1 := by rw [← eb3]; exact X0.next
  have drb1 : r ≠ b1 := by have := Mem.lt_of_get gr; omega
  have g8 := E6.old gr
  have nx9 := E6.next
  have X10 := X0.trans E6
  obtain ⟨M11, q12, g13, kp14, X15, hM16, nx17⟩ := store_t (o := 0) (v := (.agg ⟨[(i64 e.f), (i64 e.t), (i64 e.m), (i64 e.c)]⟩)) (new := [(i64 e.f), (i64 e.t), (i64 e.m), (i64 e.c)]) X10 nb1 hM7 dS32 g5 rfl rfl (Nat.zero_le _) (Nat.le_of_ble_eq_true rfl) rfl
  replace g13 : M11.get b1 = some ⟨[(i64 e.f), (i64 e.t), (i64 e.m), (i64 e.c)], 32, 4, 0, true⟩ := g13
  have g18 := (kp14 _ drb1).trans g8
  have ltrM21 := Mem.lt_of_get g18
  have ltb1M21 := Mem.lt_of_get g13
  obtain ⟨w19, N20, M21, p22, l23, e24, E25, hM26, F27⟩ := call_fc (x := e) hM16 con30 (⟨⟨_, rfl, rfl⟩, hok⟩)
  have nx28 := E25.next
  have g29 := E25.old g18
  have g30 := E25.old g13
  have ew19 : w19 = (i64 (setM e.m)) := F27
  subst ew19
  have X31 := X15.trans E25
  obtain ⟨M32, q33, g34, kp35, X36, hM37, nx38⟩ := store_t (o := 0 + (((i : Nat) : Int) : Int).toNat * 1) (v := (i64 (setM e.m))) (new := splice cr (0 + (((i : Nat) : Int) : Int).toNat * 1) [(i64 (setM e.m))]) X31 hr hM26 dS3 g29 rfl rfl (Nat.zero_le _) hof1 rfl
  replace g34 : M32.get r = some ⟨splice cr (0 + (((i : Nat) : Int) : Int).toNat * 1) [(i64 (setM e.m))], 3, 1, 0, true⟩ := g34
  have g39 := (kp35 _ (Ne.symm drb1)).trans g30
  have hraw := r34set_raw r bb o m c i e cr M  b1 M2 M11 M21 M32
  have hkp : ∀ id k, M.get id = some k → id ≠ r → M32.get id = some k := fun id k g h_r => by
    have g0 := Mem.lt_of_get g
    have g := E6.old g
    have g := ((fun id h _ => kp14 id h) id (by omega) (Mem.lt_of_get g)).trans g
    have g := E25.old g
    have g := ((fun id h _ => kp35 id h) id h_r (Mem.lt_of_get g)).trans g
    exact g
  obtain ⟨T1, h1, h2⟩ := Rd.told noNumP mixedP (fun B => specsB_ok (k := []) (hS34_38 B) (fun p hp => by cases hp)) (fun _ _ => rfl) hraw (hk (bT cc0) (hk (q_inb (by omega) (by simp at cc0; omega)) (hk (q_ld (aload_ext X0 hld0)) (hk (q_eq (by rw [← eb3, ← em4]; kernel_rfl) Nat.one_ne_zero) (hk (q_st q12) (hk (lA ⟨dA32, dS32⟩ g13 rfl) (hk (q_call rfl p22 l23 e24) (hk (q_inb (by omega) (by simp at cc0; omega)) (hk (q_st q33) hn)))))))))
  exact ⟨T1, M32, h1, h2, X36, hM37, g34, hkp⟩
theorem r34 (k : Tell) (r bb o m c i : Nat) (e : E4) (cr : List Value) {M M0 : Mem} (hM : MemOk M) (X0 : Ext M0 M) (hr : M0.next ≤ r) (gr : M.get r = some ⟨cr, 3, 1, 0, true⟩) (hok : okM e) (hi : i < m) (hl : i < cr.length) (hld : aload Try.prog 32 ⟨bb, o + ((i : Nat) : Int).toNat * 4, none⟩ M0 = some (.agg ⟨eRow e⟩)) :
    ∃ T1 M', Rd Try.prog [] (q26.loopAt 0) Try.f26.ntmps (fr [(1, fnV k), (5, sli r 0 m (m + 1)), (11, sli bb o m c), (12, i64 ((m : Nat) : Int)), (13, i64 ((i : Nat) : Int))]) M .normal T1 M' ∧ [1, 5, 11, 12, 13].map T1.get = [some (fnV k), some (sli r 0 m (m + 1)), some (sli bb o m c), some (i64 ((m : Nat) : Int)), some (i64 (IntKind.wrap .i64 (((i : Nat) : Int) + 1)))] ∧ Ext M0 M' ∧ MemOk M' ∧ M'.get r = some ⟨splice cr i [i64 (tellE k e)], 3, 1, 0, true⟩ := by
  have e0 : 0 + ((i : Nat) : Int).toNat * 1 = i := by simp
  cases k
  · obtain ⟨T1, M', h1, h2, h3, h4, h5, _⟩ := r34to r bb o m c i e cr hM X0 hr gr (decide_eq_true (by omega)) hld (by rw [e0]; omega)
    rw [e0] at h5
    exact ⟨T1, M', h1, h2, h3, h4, h5⟩
  · obtain ⟨T1, M', h1, h2, h3, h4, h5, _⟩ := r34fr r bb o m c i e cr hM X0 hr gr (decide_eq_true (by omega)) hld (by rw [e0]; omega)
    rw [e0] at h5
    exact ⟨T1, M', h1, h2, h3, h4, h5⟩
  · obtain ⟨T1, M', h1, h2, h3, h4, h5, _⟩ := r34set r bb o m c i e cr hM X0 hr gr hok (decide_eq_true (by omega)) hld (by rw [e0]; omega)
    rw [e0] at h5
    exact ⟨T1, M', h1, h2, h3, h4, h5⟩
theorem loop34 (k : Tell) {a : Option Addr} {c r : Nat} {l : List E4} {M0 M : Mem} (hM : MemOk M) (X : Ext M0 M) (hs : EdgesAt M0 (.slice a l.length c) l) (hok : ∀ e ∈ l, okM e) (hr : M0.next ≤ r) (gr : M.get r = some ⟨List.replicate l.length (i64 0), 3, 1, 0, true⟩) :
    ∃ M', LoopR Try.prog [] (q26.loopAt 0) Try.f26.ntmps (fr [(1, fnV k), (5, sli r 0 l.length (l.length + 1)), (11, .slice a l.length c), (12, i64 ((l.length : Nat) : Int)), (13, i64 ((0 : Nat) : Int))]) M (.exit 0) (fr [(5, sli r 0 l.length (l.length + 1))]) M' ∧ Ext M0 M' ∧ MemOk M' ∧ M'.get r = some ⟨(l.map (tellE k)).map i64, 3, 1, 0, true⟩ := by
  have hlen := hs.len
  have hxl : ((l.map (tellE k)).map i64).length = l.length := by simp
  obtain ⟨_, M', h1, h2, h3, h4⟩ := LoopR.for (P := Try.prog) (GL := []) (b := q26.loopAt 0) (nt := Try.f26.ntmps) (id := 0) (σ := Unit) (n := l.length) (Inv := fun i _ M1 => Ext M0 M1 ∧ MemOk M1 ∧ M1.get r = some ⟨fillS ((l.map (tellE k)).map i64) i (i64 0), 3, 1, 0, true⟩)
    (F := fun i _ => [(1, fnV k), (5, sli r 0 l.length (l.length + 1)), (11, .slice a l.length c), (12, i64 ((l.length : Nat) : Int)), (13, i64 ((i : Nat) : Int))])
    (O := fun _ => [(5, sli r 0 l.length (l.length + 1))])
    (by
      rintro i _ M1 hi ⟨X1, hM1, hg1⟩
      obtain ⟨bb, o, rfl, _⟩ := form_pos hs (by omega)
      have ht : l[i]? = some l[i] := List.getElem?_eq_getElem hi
      obtain ⟨T1, M2, h1, h2, h3, h4, h5⟩ := r34 k r bb o l.length c i l[i] _ hM1 X1 hr hg1 (hok _ (List.getElem_mem hi)) hi (by rw [fillS_len _ _ (by omega)]; omega) (ld_row (P := Try.prog) (ty := 32) hs ht dA32 dS32)
      rw [wrap_succ (by omega)] at h2
      rw [fillS_step (by simp [ht])] at h5
      exact ⟨(), T1, M2, h1, h2, h3, h4, h5⟩)
    (by
      rintro _ M1 ⟨X1, hM1, hg1⟩
      exact r34x (fnV k) r a l.length c l.length (M := M1) (decide_eq_false (by omega)))
    l.length 0 (by omega) (s := ()) (M := M) ⟨X, hM, by rw [fillS_zero, hxl]; exact gr⟩
  refine ⟨M', h1, h2, h3, ?_⟩
  have := fillS_all ((l.map (tellE k)).map i64) (i64 0)
  rw [hxl] at this
  rw [this] at h4
  exact h4
theorem rK26 : Try.f26.results = #[.tmp 4] := by kernel_rfl
theorem w34_raw (al : Option Addr) (cl : Nat) (l : List E4) (k : Tell) (M : Mem) (b1 : Nat) (M2 : Mem) (M9 : Mem) : oT Try.prog [0] 60 Try.f26 q26 [(.slice al l.length cl), fnV k] M [ttT 5, ttV 7 (sli b1 0 l.length (l.length + 1)) M2, ttT 13, .blk 16 [1, 5, 11, 12, 13] .normal (fr [(5, (sli b1 0 l.length (l.length + 1)))]) M9] 4 = some (.ret, some (sli b1 0 l.length (l.length + 1)), M9, [.ln al l.length cl, .eq (amakeSlice Try.prog 22 (i64 (((l.length : Nat) : Int))) (i64 (((l.length : Nat) : Int))) M) (1, .val (sli b1 0 l.length (l.length + 1)), M2), .ln al l.length cl, .blk 0 (.loop (q26.loopAt 0)) Try.f26.ntmps [1, 5, 11, 12, 13] [some (fnV k), some (sli b1 0 l.length (l.length + 1)), some (.slice al l.length cl), some (i64 (((l.length : Nat) : Int))), some (i64 0)] M2 .normal (fr [(5, (sli b1 0 l.length (l.length + 1)))]) M9]) := by kernel_rfl
theorem w34 (al : Option Addr) (cl : Nat) (l : List E4) (k : Tell) {M : Mem} (hM : MemOk M) (hl : pEdges l (.slice al l.length cl) M) (hcond : l.length ≤ 400 ∧ ∀ e ∈ l, okM e) : ∃ v M', Ev Try.prog [] 26 [(.slice al l.length cl), fnV k] M v M' ∧ Ext M M' ∧ MemOk M' ∧ newR pInts (l.map (tellE k)) M.next v M' := by
  obtain ⟨b1, M2, eb3, em4, g5, E6, hM7⟩ := mks_t (P := Try.prog) (t := 22) (elem := 3) (z := (i64 0)) (n := l.length) hM (by kernel_rfl) (by kernel_rfl) (by have := hcond.1; omega)
  have nb1 : M.next ≤ b1 := by rw [← eb3]; exact (Ext.refl M).next
  have X8 := (Ext.refl M).trans E6
  obtain ⟨M9, hL10, X11, hM12, g13⟩ := loop34 k hM7 X8 hl hcond.2 nb1 g5
  have hraw := w34_raw al cl l k M  b1 M2 M9
  exact ⟨(sli b1 0 l.length (l.length + 1)), M9, Ev.told_tmp noNumP mixedP Try.func26 q26_ok (by kernel_rfl) rK26 (fun B => specsB_ok (l := []) (fun p hp => by cases hp) (k := [(0, bone (.loop (q26.loopAt 0)) Try.f26.ntmps [1, 5, 11, 12, 13] [some (fnV k), some (sli b1 0 l.length (l.length + 1)), some (.slice al l.length cl), some (i64 (((l.length : Nat) : Int))), some (i64 0)] M2 .normal (fr [(5, (sli b1 0 l.length (l.length + 1)))]) M9)]) (fun p hp => by simp only [List.mem_cons, List.not_mem_nil, or_false] at hp; rcases hp with rfl <;> first | exact BlkOk.loop noNumP mixedP hL10)) (fun _ h => blksF_one h) hraw (hk (lN hl.ln) (hk (q_eq em4 Nat.one_ne_zero) (hk (lN hl.ln) (hk (q_blk rfl) hn)))), X11, hM12, GRowsAt.of_blk' (b := b1) (w := 1) (g := iRow) (hid_of nb1 g13) (List.length_map _) (by simp [flat1, List.map_map, Function.comp_def]) (fun _ _ => rfl) (by have := hl.len; simpa using this)⟩
abbrev Q26 := FC (asP (as2 pEdges pFn) (fun x => x.1.length ≤ 400 ∧ ∀ e ∈ x.1, okM e)) (newR pInts) (fun x => x.1.map (tellE x.2))
theorem con26 {x : (List E4) × (Tell)} {lv : List Value} {M : Mem} (hM : MemOk M) (h : (asP (as2 pEdges pFn) (fun x => x.1.length ≤ 400 ∧ ∀ e ∈ x.1, okM e)) x lv M) : ∃ v M', Con Try.prog [] 26 Q26 lv M v M' := by
  refine FC.con h ?_
  obtain ⟨h, hcond⟩ := h
  obtain ⟨l, k⟩ := x
  obtain ⟨g0, g1, rfl, k0, k1⟩ := h
  obtain ⟨al, cl, rfl⟩ := GRowsAt.form k0
  have hl := k0
  obtain rfl := k1
  obtain ⟨v, M', h1, h2, _, h3⟩ := w34 al cl l k hM hl hcond
  exact ⟨v, M', h1, h2, h3⟩
end Go.Proofs.Ytipnhelkganmdaa
