/-
  What is proved: ProductKnown: in this network, by these fourteen expressions, it costs just so. For every argument.
-/
import Derived.Test.YtibgnnjicplphaaAmRows
import Derived.Test.YtibgnnjicplphaaProg
open Go Go.Am Go.Proofs
namespace Go.Proofs.Ytibgnnjicplphaa
set_option maxRecDepth 100000

theorem noNumP : noNum Try.prog := by
  have h : Try.prog.funcs.all (fun fn => !(fn.name == "runtime.NumGoroutine")) = true := by kernel_rfl
  refine ⟨Nat.le_of_ble_eq_true (by kernel_rfl), fun f fn hf => ?_⟩
  have := (Array.all_eq_true_iff_forall_mem.1 h) fn (Array.mem_of_getElem? hf)
  simpa using this
theorem mixedP : Try.prog.follows .mixedOrders = true := by kernel_rfl
theorem laidOut : laidOutB Try.prog = true := by kernel_rfl
theorem own' : ownKnob Try.prog.godebug = none := by kernel_rfl
def KS : Kinds Try.prog := ⟨3, 4, 22, Try.underlying3, Try.underlying4, Try.underlying22, by kernel_rfl⟩

/- known() -/
theorem knownRun : (Go.Am.arun Try.prog [] noSpecs 300 12 [] zeroMem).map (·.1) = some (.bool true) := by kernel_rfl
theorem okKnown (B : Bd) : SpecOk Try.prog [] B 12 (ansNone (.bool true)) := by
  cases hk : Go.Am.arun Try.prog [] noSpecs 300 12 [] zeroMem with
  | none => have := knownRun; rw [hk] at this; cases this
  | some r =>
    obtain ⟨v, M1⟩ := r
    have := knownRun
    rw [hk] at this
    cases this
    exact SpecOk.ansNone noNumP mixedP (fun B => SpecsOk.none) hk rfl

/- within(at, n) -/
noncomputable def BW : Code := Try.f16.body.get!
theorem bodyW : Try.f16.body = some BW := by kernel_rfl
theorem runWa (x n : Int) (M : Mem) : (xexec Try.prog [] noSpecs 50 BW ⟨initT [i64 x, i64 n] 0 .nil, Try.f16.ntmps, M⟩ [tru 7, tru 14] 0).map (fun r => (r.1.1, r.1.2.M, aresults Try.prog Try.f16 r.1.2, r.2.2.2.map (view noDoors []))) =
    some (.ret, M, some (i64 (IntKind.wrap .i64 (x.tmod n + n))), [.nz n, .b (decide (x.tmod n < 0)) (.val (.bool true))]) := by kernel_rfl
theorem runWb (x n : Int) (M : Mem) : (xexec Try.prog [] noSpecs 50 BW ⟨initT [i64 x, i64 n] 0 .nil, Try.f16.ntmps, M⟩ [tru 7, fls 14] 0).map (fun r => (r.1.1, r.1.2.M, aresults Try.prog Try.f16 r.1.2, r.2.2.2.map (view noDoors []))) =
    some (.ret, M, some (i64 (x.tmod n)), [.nz n, .b (decide (x.tmod n < 0)) (.val (.bool false))]) := by kernel_rfl
theorem okMod (B : Bd) : SpecOk Try.prog [] B 16 gMod := SpecOk.mod (fun B x n M hn hn2 => by
  have hne : n ≠ 0 := by omega
  refine ⟨noSpecs, 50, SpecsOk.none, ?_⟩
  by_cases h : x.tmod n < 0
  · obtain ⟨M', h1, h2⟩ := xrun_of (look := fun M => M) Try.func16 bodyW (by kernel_rfl) (runWa x n M) (.inr rfl) (by
      intro p hp; simp only [List.mem_cons, List.not_mem_nil, or_false] at hp
      rcases hp with rfl | rfl
      · exact hne
      · exact qd h)
    rw [h1, h2, modI_neg hn hn2 h]
  · obtain ⟨M', h1, h2⟩ := xrun_of (look := fun M => M) Try.func16 bodyW (by kernel_rfl) (runWb x n M) (.inr rfl) (by
      intro p hp; simp only [List.mem_cons, List.not_mem_nil, or_false] at hp
      rcases hp with rfl | rfl
      · exact hne
      · exact qdn h)
    rw [h1, h2, ← modI_pos h]) noNumP mixedP
theorem uInt : Try.prog.underlying 3 = some (.int .i64) := Try.underlying3
theorem uBool : Try.prog.underlying 4 = some .bool := Try.underlying4
end Go.Proofs.Ytibgnnjicplphaa
