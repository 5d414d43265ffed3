/-
  Package adj: each of its laws for every argument; no conditions. The last text states which.
-/
import Derived.Test.YtipnhelkganmdaaGAmPw
import Derived.Test.YtipnhelkganmdaaProg
import Derived.Test.YtipnhelkganmdaaGUQ
import Derived.Test.YtipnhelkganmdaaGAmLoop
set_option linter.unusedVariables false
set_option linter.unusedSimpArgs false
set_option linter.unusedVariables false
set_option linter.unusedSimpArgs false
open Go Go.Am Go.Proofs
namespace Go.Proofs.Ytipnhelkganmdaa
set_option maxRecDepth 100000
theorem noNumP : noNum Try.prog := by
  have h : Try.prog.funcs.all (fun fn => !(fn.name == "runtime.NumGoroutine")) = true := by kernel_rfl
  refine ⟨Nat.le_of_ble_eq_true (by kernel_rfl), fun f fn hf => ?_⟩
  have := (Array.all_eq_true_iff_forall_mem.1 h) fn (Array.mem_of_getElem? hf)
  simpa using this
theorem mixedP : Try.prog.follows .mixedOrders = true := by kernel_rfl
end Go.Proofs.Ytipnhelkganmdaa

set_option linter.unusedVariables false
set_option linter.unusedSimpArgs false
open Go Go.Am Go.Proofs
namespace Go.Proofs.Ytipnhelkganmdaa
set_option maxRecDepth 100000
set_option linter.unusedVariables false
set_option linter.unusedSimpArgs false
theorem rK24 : Try.f24.results = #[.tmp 4] := by kernel_rfl
theorem w19_0_raw (x n : Int) (M : Mem)  : oT Try.prog [] 51 Try.f24 q24 [(i64 x), (i64 n)] M [ttT 7, ttT 14] 4 = some (.ret, some (i64 (IntKind.wrap .i64 ((x.tmod n) + n))), M, [.q (.nz n) (ansB true), qT (decide ((x.tmod n) < (0 : Int)))]) := by kernel_rfl
theorem w19_0 (x n : Int) {M : Mem} (hM : MemOk M) (hnz : n ≠ 0) (cc0 : (decide ((x.tmod n) < (0 : Int))) = true) : ∃ v_ M', Ev Try.prog [] 24 [(i64 x), (i64 n)] M v_ M' ∧ Ext M M' ∧ MemOk M' ∧ v_ = (i64 (IntKind.wrap .i64 ((x.tmod n) + n))) := by
  have hraw := w19_0_raw x n M  
  exact ⟨(i64 (IntKind.wrap .i64 ((x.tmod n) + n))), M, Ev.told_tmp noNumP mixedP Try.func24 q24_ok (by kernel_rfl) rK24 (specs_none Try.prog) (fun _ _ => rfl) hraw (hk (q_nz hnz) (hk (bT cc0) hn)), (Ext.refl M), hM, rfl⟩
theorem w19_1_raw (x n : Int) (M : Mem)  : oT Try.prog [] 51 Try.f24 q24 [(i64 x), (i64 n)] M [ttT 7, ttF 14] 4 = some (.ret, some (i64 (x.tmod n)), M, [.q (.nz n) (ansB true), qF (decide ((x.tmod n) < (0 : Int)))]) := by kernel_rfl
theorem w19_1 (x n : Int) {M : Mem} (hM : MemOk M) (hnz : n ≠ 0) (cc0 : (decide ((x.tmod n) < (0 : Int))) = false) : ∃ v_ M', Ev Try.prog [] 24 [(i64 x), (i64 n)] M v_ M' ∧ Ext M M' ∧ MemOk M' ∧ v_ = (i64 (x.tmod n)) := by
  have hraw := w19_1_raw x n M  
  exact ⟨(i64 (x.tmod n)), M, Ev.told_tmp noNumP mixedP Try.func24 q24_ok (by kernel_rfl) rK24 (specs_none Try.prog) (fun _ _ => rfl) hraw (hk (q_nz hnz) (hk (bF cc0) hn)), (Ext.refl M), hM, rfl⟩
abbrev Q24 := FC (asP (as2 pI pI) fun x => (decide (0 < x.2) && decide (x.2 < 2 ^ 62)) = true) (plain pI) (fun x => modI x.1 x.2)
theorem con24 {x : Int × Int} {lv : List Value} {M : Mem} (hM : MemOk M) (h : (asP (as2 pI pI) fun x : Int × Int => (decide (0 < x.2) && decide (x.2 < 2 ^ 62)) = true) x lv M) : ∃ v M', Con Try.prog [] 24 Q24 lv M v M' := by
  refine FC.con h ?_
  obtain ⟨⟨g0, g1, rfl, rfl, rfl⟩, hc⟩ := h
  obtain ⟨x, n⟩ := x
  simp only [Bool.and_eq_true, decide_eq_true_eq] at hc ⊢
  by_cases hlt : x.tmod n < 0
  · obtain ⟨v, M', h1, h2, _, h3⟩ := w19_0 x n hM (by omega) (decide_eq_true hlt)
    exact ⟨v, M', h1, h2, h3.trans (congrArg i64 (modI_neg hc.1 hc.2 hlt))⟩
  · obtain ⟨v, M', h1, h2, _, h3⟩ := w19_1 x n hM (by omega) (decide_eq_false hlt)
    exact ⟨v, M', h1, h2, h3.trans (congrArg i64 (modI_pos hlt))⟩
end Go.Proofs.Ytipnhelkganmdaa
