/-
  RegexLong: two hundred letters are read, or refused at the last one, more are refused; whatever the arguments. Conditions: none beyond the card's own.
-/
import Derived.Test.YtlgkpnlppgihcaaDoorAmRows
import Derived.Test.YtlgkpnlppgihcaaDoorProg
open Go Go.Am Go.Proofs
namespace Go.Proofs.YtlgkpnlppgihcaaDoor
set_option maxRecDepth 100000

theorem noNumP : noNum Tryd.prog := by
  have h : Tryd.prog.funcs.all (fun fn => !(fn.name == "runtime.NumGoroutine")) = true := by kernel_rfl
  intro f fn hf
  have := (Array.all_eq_true_iff_forall_mem.1 h) fn (Array.mem_of_getElem? hf)
  simpa using this
theorem mixedP : Tryd.prog.follows .mixedOrders = true := by kernel_rfl
theorem laidOut : laidOutB Tryd.prog = true := by kernel_rfl
theorem own' : ownKnob Tryd.prog.godebug = none := by kernel_rfl
def KS : Kinds Tryd.prog := ⟨3, 4, 36, Tryd.underlying3, Tryd.underlying4, Tryd.underlying36, by kernel_rfl⟩

/- known() -/
theorem knownRun : (Go.Am.arun Tryd.prog [] noSpecs 300 13 [] zeroMem).map (·.1) = some (.bool true) := by kernel_rfl
theorem okKnown (B : Nat) : SpecOk Tryd.prog [] B 13 (ansNone (.bool true)) := by
  cases hk : Go.Am.arun Tryd.prog [] noSpecs 300 13 [] zeroMem with
  | none => have := knownRun; rw [hk] at this; cases this
  | some r =>
    obtain ⟨v, M1⟩ := r
    have := knownRun
    rw [hk] at this
    cases this
    exact SpecOk.ansNone noNumP mixedP (fun B => SpecsOk.none) hk rfl

/- within(at, n) -/
noncomputable def BW : Code := Tryd.f23.body.get!
theorem bodyW : Tryd.f23.body = some BW := by kernel_rfl
theorem runWa (x n : Int) (M : Mem) : (xexec Tryd.prog [] noSpecs 50 BW ⟨initT [i64 x, i64 n] 0 .nil, Tryd.f23.ntmps, M⟩ [tru 7, tru 14] 0).map (fun r => (r.1.1, r.1.2.M, aresults Tryd.prog Tryd.f23 r.1.2, r.2.2.2.map (view noDoors []))) =
    some (.ret, M, some (i64 (IntKind.wrap .i64 (x.tmod n + n))), [.nz n, .b (decide (x.tmod n < 0)) (.val (.bool true))]) := by kernel_rfl
theorem runWb (x n : Int) (M : Mem) : (xexec Tryd.prog [] noSpecs 50 BW ⟨initT [i64 x, i64 n] 0 .nil, Tryd.f23.ntmps, M⟩ [tru 7, fls 14] 0).map (fun r => (r.1.1, r.1.2.M, aresults Tryd.prog Tryd.f23 r.1.2, r.2.2.2.map (view noDoors []))) =
    some (.ret, M, some (i64 (x.tmod n)), [.nz n, .b (decide (x.tmod n < 0)) (.val (.bool false))]) := by kernel_rfl
theorem okMod (B : Nat) : SpecOk Tryd.prog [] B 23 gMod := SpecOk.mod (fun B x n M hn hn2 => by
  have hne : n ≠ 0 := by omega
  refine ⟨noSpecs, 50, SpecsOk.none, ?_⟩
  by_cases h : x.tmod n < 0
  · obtain ⟨M', h1, h2⟩ := xrun_of (look := fun M => M) Tryd.func23 bodyW (by kernel_rfl) (runWa x n M) (.inr rfl) (by
      intro p hp; simp only [List.mem_cons, List.not_mem_nil, or_false] at hp
      rcases hp with rfl | rfl
      · exact hne
      · exact qd h)
    rw [h1, h2, modI_neg hn hn2 h]
  · obtain ⟨M', h1, h2⟩ := xrun_of (look := fun M => M) Tryd.func23 bodyW (by kernel_rfl) (runWb x n M) (.inr rfl) (by
      intro p hp; simp only [List.mem_cons, List.not_mem_nil, or_false] at hp
      rcases hp with rfl | rfl
      · exact hne
      · exact qdn h)
    rw [h1, h2, ← modI_pos h]) noNumP mixedP
theorem uInt : Tryd.prog.underlying 3 = some (.int .i64) := Tryd.underlying3
theorem uBool : Tryd.prog.underlying 4 = some .bool := Tryd.underlying4
end Go.Proofs.YtlgkpnlppgihcaaDoor
