/-
  P101, NetChecks: for every network, every number, every row of numbers that is handed in the law answers true, and its arguments read as they did. No condition but the row's own.
-/
import Derived.Test.YtlmifmodnkhidaaDoorW13
open Go Go.Am Go.Proofs
namespace Go.Proofs.YtlmifmodnkhidaaDoor
set_option maxRecDepth 10000

theorem specs38 (B : Nat) : SpecsOk Tryd.prog [] B (specs [(38, g38)]) := specs24 B
theorem c38 (i c : Int) (b : Bool) (h : (0 ≤ i ∧ i < c) ↔ b = true) : (QV.cr 38 [i64 i, i64 c] [] (.val (.bool b))).holds Tryd.prog (specs [(38, g38)]) noDoors [] := fun M _ =>
  call38 rfl i c b (by rw [below_bool]; cases b <;> simp_all) M
theorem db {SP : Specs} {D : Nat → Door} {p : Prop} [Decidable p] {b : Bool} (h : p ↔ b = true) : (QV.b (decide p) (.val (.bool b))).holds Tryd.prog SP D [] := by
  cases b <;> simp_all [QV.holds]
theorem body28 : Tryd.f28.body = some Tryd.f28.body.get! := by kernel_rfl
theorem body29 : Tryd.f29.body = some Tryd.f29.body.get! := by kernel_rfl
theorem body30 : Tryd.f30.body = some Tryd.f30.body.get! := by kernel_rfl

theorem ok28 (B : Nat) : SpecOk Tryd.prog [] B 28 g28 := SpecOk.flat noNumP mixedP fun args M v M' h => by
  unfold g28 at h
  split at h
  · rename_i n
    cases h
    refine ⟨rfl, rfl, rfl, 60, specs [(38, g38)], ?_⟩
    by_cases h1 : n ≥ 1
    · obtain ⟨M0, k1, _⟩ := run_of (look := fun _ => ()) Tryd.func28 body28 (by kernel_rfl) (r28a n) (.inr rfl) (by simp only [List.forall_mem_cons]; exact ⟨db (by simp [h1]), db (by simp [h1]), db (by simp [h1]), by simp⟩)
      refine ⟨M0, specs38, ?_⟩
      rw [k1]
      have : (1 ≤ n ∧ n ≤ 60) = (n ≤ 60) := by simp; omega
      simp only [this]
    · obtain ⟨M0, k1, _⟩ := run_of (look := fun _ => ()) Tryd.func28 body28 (by kernel_rfl) (r28b n) (.inr rfl) (by simp only [List.forall_mem_cons]; exact ⟨db (by simpa using h1), db (by simpa using h1), db (by simpa using h1), by simp⟩)
      refine ⟨M0, specs38, ?_⟩
      rw [k1]
      have : decide (1 ≤ n ∧ n ≤ 60) = false := by simp; omega
      rw [this]
  · cases h

theorem ok29 (B : Nat) : SpecOk Tryd.prog [] B 29 g29 := SpecOk.flat noNumP mixedP fun args M v M' h => by
  unfold g29 at h
  split at h
  · rename_i f t m c n
    cases h
    refine ⟨rfl, rfl, rfl, 60, specs [(38, g38)], ?_⟩
    have fin : ∀ {F : List Fact} {b : Bool} {q : List QV}, (hexec Tryd.prog [] (specs [(38, g38)]) 60 (Tryd.f29.body.get!) ⟨initT [edgeV f t m c, i64 n] 0 .nil, Tryd.f29.ntmps, startMem [] 0⟩ F 0).map (fun r => (r.1.1, (), aresults Tryd.prog Tryd.f29 r.1.2, r.2.2.2.map (view noDoors []))) = some (.ret, (), some (.bool b), q) →
        (∀ p ∈ q, p.holds Tryd.prog (specs [(38, g38)]) noDoors []) → (fitsP n ⟨f, t, m, c⟩ ↔ b = true) → ∃ M0, (∀ B, SpecsOk Tryd.prog [] B (specs [(38, g38)])) ∧ Go.Am.arun Tryd.prog [] (specs [(38, g38)]) 60 29 [edgeV f t m c, i64 n] (startMem [] 0) = some (.bool (decide (fitsP n ⟨f, t, m, c⟩)), M0) := fun hx hq hb => by
      obtain ⟨M0, k1, _⟩ := run_of (look := fun _ => ()) Tryd.func29 body29 (by kernel_rfl) hx (.inr rfl) hq
      refine ⟨M0, specs38, k1.trans ?_⟩
      rename_i b _
      cases b <;> simp_all
    by_cases h1 : 0 ≤ f ∧ f < n
    · by_cases h2 : 0 ≤ t ∧ t < n
      · by_cases h3 : 0 ≤ m ∧ m < 5
        · by_cases h4 : c ≥ 0
          · refine fin (r29_4 f t m c n) (by simp only [List.forall_mem_cons]; exact ⟨c38 _ _ _ (by simp [h1]), c38 _ _ _ (by simp [h2]), c38 _ _ _ (by simp [h3]), db (by simp [h4]), db (by simp [h4]), db (by simp [h4]), db (by simp [h4]), by simp⟩) (by unfold fitsP; simp; omega)
          · refine fin (r29_3 f t m c n) (by simp only [List.forall_mem_cons]; exact ⟨c38 _ _ _ (by simp [h1]), c38 _ _ _ (by simp [h2]), c38 _ _ _ (by simp [h3]), db (by simpa using h4), db (by simpa using h4), db (by simpa using h4), db (by simpa using h4), by simp⟩) (by unfold fitsP; simp; omega)
        · refine fin (r29_2 f t m c n) (by simp only [List.forall_mem_cons]; exact ⟨c38 _ _ _ (by simp [h1]), c38 _ _ _ (by simp [h2]), c38 _ _ _ (by simpa using h3), by simp⟩) (by unfold fitsP; simp; omega)
      · refine fin (r29_1 f t m c n) (by simp only [List.forall_mem_cons]; exact ⟨c38 _ _ _ (by simp [h1]), c38 _ _ _ (by simpa using h2), by simp⟩) (by unfold fitsP; simp; omega)
    · refine fin (r29_0 f t m c n) (by simp only [List.forall_mem_cons]; exact ⟨c38 _ _ _ (by simpa using h1), by simp⟩) (by unfold fitsP; simp; omega)
  · cases h

theorem ok30 (B : Nat) : SpecOk Tryd.prog [] B 30 g30 := SpecOk.flat noNumP mixedP fun args M v M' h => by
  unfold g30 g29 at h
  split at h
  · rename_i f t m c n
    cases h
    refine ⟨rfl, rfl, rfl, 60, specs [(38, g38)], ?_⟩
    have fin : ∀ {F : List Fact} {b : Bool} {q : List QV}, (hexec Tryd.prog [] (specs [(38, g38)]) 60 (Tryd.f30.body.get!) ⟨initT [edgeV f t m c, i64 n] 0 .nil, Tryd.f30.ntmps, startMem [] 0⟩ F 0).map (fun r => (r.1.1, (), aresults Tryd.prog Tryd.f30 r.1.2, r.2.2.2.map (view noDoors []))) = some (.ret, (), some (.bool b), q) →
        (∀ p ∈ q, p.holds Tryd.prog (specs [(38, g38)]) noDoors []) → (fitsP n ⟨f, t, m, c⟩ ↔ b = true) → ∃ M0, (∀ B, SpecsOk Tryd.prog [] B (specs [(38, g38)])) ∧ Go.Am.arun Tryd.prog [] (specs [(38, g38)]) 60 30 [edgeV f t m c, i64 n] (startMem [] 0) = some (.bool (decide (fitsP n ⟨f, t, m, c⟩)), M0) := fun hx hq hb => by
      obtain ⟨M0, k1, _⟩ := run_of (look := fun _ => ()) Tryd.func30 body30 (by kernel_rfl) hx (.inr rfl) hq
      refine ⟨M0, specs38, k1.trans ?_⟩
      rename_i b _
      cases b <;> simp_all
    by_cases h0 : f ≥ 0
    · by_cases h1 : f < n
      · by_cases h2 : t ≥ 0
        · by_cases h3 : t < n
          · by_cases h4 : m ≥ 0
            · by_cases h5 : m < 5
              · by_cases h6 : c ≥ 0
                · exact fin (r30_7 f t m c n) (by simp [QV.holds, h0, h1, h2, h3, h4, h5, h6]) (by unfold fitsP; simp; omega)
                · exact fin (r30_6 f t m c n) (by simp [QV.holds, h0, h1, h2, h3, h4, h5, h6]) (by unfold fitsP; simp; omega)
              · exact fin (r30_5 f t m c n) (by simp [QV.holds, h0, h1, h2, h3, h4, h5]) (by unfold fitsP; simp; omega)
            · exact fin (r30_4 f t m c n) (by simp [QV.holds, h0, h1, h2, h3, h4]) (by unfold fitsP; simp; omega)
          · exact fin (r30_3 f t m c n) (by simp [QV.holds, h0, h1, h2, h3]) (by unfold fitsP; simp; omega)
        · exact fin (r30_2 f t m c n) (by simp [QV.holds, h0, h1, h2]) (by unfold fitsP; simp; omega)
      · exact fin (r30_1 f t m c n) (by simp [QV.holds, h0, h1]) (by unfold fitsP; simp; omega)
    · exact fin (r30_0 f t m c n) (by simp [QV.holds, h0]) (by unfold fitsP; simp; omega)
  · cases h
end Go.Proofs.YtlmifmodnkhidaaDoor
