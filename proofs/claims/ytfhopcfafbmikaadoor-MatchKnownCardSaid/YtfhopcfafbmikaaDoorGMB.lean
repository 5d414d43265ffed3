/-
  Proved: of these twenty texts and words whether the word is in the text's language, as milestonelaw5.MatchKnown asks it, holds whatever the argument is. Conditions: those of the given row alone (the table math/bits.deBruijn64tab starts as the program's text lays it).
-/
import Derived.Test.YtfhopcfafbmikaaDoorAmRows
import Derived.Test.YtfhopcfafbmikaaDoorProg
import Derived.Test.YtfhopcfafbmikaaDoorAmGl
open Go Go.Am Go.Proofs
namespace Go.Proofs.YtfhopcfafbmikaaDoor
set_option maxRecDepth 100000
theorem noNumP : noNum Tryd.prog := by
  have h : Tryd.prog.funcs.all (fun fn => !(fn.name == "runtime.NumGoroutine")) = true := by kernel_rfl
  refine ⟨Nat.le_of_ble_eq_true (by kernel_rfl), fun f fn hf => ?_⟩
  have := (Array.all_eq_true_iff_forall_mem.1 h) fn (Array.mem_of_getElem? hf)
  simpa using this
theorem mixedP : Tryd.prog.follows .mixedOrders = true := by kernel_rfl
theorem knownRun : (Go.Am.arun Tryd.prog [] noSpecs 300 12 [] zeroMem).map (·.1) = some (.bool true) := by kernel_rfl
theorem okKnown (B : Bd) : SpecOk Tryd.prog [] B 12 (ansNone (.bool true)) := by
  cases hk : Go.Am.arun Tryd.prog [] noSpecs 300 12 [] zeroMem with
  | none => have := knownRun; rw [hk] at this; cases this
  | some r =>
    obtain ⟨v, M1⟩ := r
    have := knownRun
    rw [hk] at this
    cases this
    exact SpecOk.ansNone noNumP mixedP (fun B => SpecsOk.none) hk rfl
noncomputable def BW : Code := Tryd.f20.body.get!
theorem bodyW : Tryd.f20.body = some BW := by kernel_rfl
theorem runWa (x n : Int) (M : Mem) : (xexec Tryd.prog [] noSpecs 50 BW ⟨initT [i64 x, i64 n] 0 .nil, Tryd.f20.ntmps, M⟩ [tru 7, tru 14] 0).map (fun r => (r.1.1, r.1.2.M, aresults Tryd.prog Tryd.f20 r.1.2, r.2.2.2.map (view noDoors []))) =
    some (.ret, M, some (i64 (IntKind.wrap .i64 (x.tmod n + n))), [.nz n, .b (decide (x.tmod n < 0)) (.val (.bool true))]) := by kernel_rfl
theorem runWb (x n : Int) (M : Mem) : (xexec Tryd.prog [] noSpecs 50 BW ⟨initT [i64 x, i64 n] 0 .nil, Tryd.f20.ntmps, M⟩ [tru 7, fls 14] 0).map (fun r => (r.1.1, r.1.2.M, aresults Tryd.prog Tryd.f20 r.1.2, r.2.2.2.map (view noDoors []))) =
    some (.ret, M, some (i64 (x.tmod n)), [.nz n, .b (decide (x.tmod n < 0)) (.val (.bool false))]) := by kernel_rfl
theorem okMod (B : Bd) : SpecOk Tryd.prog [] B 20 gMod := SpecOk.mod (fun B x n M hn hn2 => by
  have hne : n ≠ 0 := by omega
  refine ⟨noSpecs, 50, SpecsOk.none, ?_⟩
  by_cases h : x.tmod n < 0
  · obtain ⟨M', h1, h2⟩ := xrun_of (look := fun M => M) Tryd.func20 bodyW (by kernel_rfl) (runWa x n M) (.inr rfl) (by
      intro p hp; simp only [List.mem_cons, List.not_mem_nil, or_false] at hp
      rcases hp with rfl | rfl
      · exact hne
      · exact qd h)
    rw [h1, h2, modI_neg hn hn2 h]
  · obtain ⟨M', h1, h2⟩ := xrun_of (look := fun M => M) Tryd.func20 bodyW (by kernel_rfl) (runWb x n M) (.inr rfl) (by
      intro p hp; simp only [List.mem_cons, List.not_mem_nil, or_false] at hp
      rcases hp with rfl | rfl
      · exact hne
      · exact qdn h)
    rw [h1, h2, ← modI_pos h]) noNumP mixedP
end Go.Proofs.YtfhopcfafbmikaaDoor

open Go Go.Am Go.Proofs
namespace Go.Proofs.YtfhopcfafbmikaaDoor
set_option maxRecDepth 100000
def tab64 : List Value := [.int .u8 0, .int .u8 1, .int .u8 56, .int .u8 2, .int .u8 57, .int .u8 49, .int .u8 28, .int .u8 3, .int .u8 61, .int .u8 58, .int .u8 42, .int .u8 50, .int .u8 38, .int .u8 29, .int .u8 17, .int .u8 4, .int .u8 62, .int .u8 47, .int .u8 59, .int .u8 36, .int .u8 45, .int .u8 43, .int .u8 51, .int .u8 22, .int .u8 53, .int .u8 39, .int .u8 33, .int .u8 30, .int .u8 24, .int .u8 18, .int .u8 12, .int .u8 5, .int .u8 63, .int .u8 55, .int .u8 48, .int .u8 27, .int .u8 60, .int .u8 41, .int .u8 37, .int .u8 16, .int .u8 46, .int .u8 35, .int .u8 44, .int .u8 21, .int .u8 52, .int .u8 32, .int .u8 23, .int .u8 11, .int .u8 54, .int .u8 26, .int .u8 40, .int .u8 15, .int .u8 34, .int .u8 20, .int .u8 31, .int .u8 10, .int .u8 25, .int .u8 14, .int .u8 19, .int .u8 9, .int .u8 13, .int .u8 8, .int .u8 7, .int .u8 6]
def tabB (e : TypeId) : ABlk := ⟨tab64, e, 1, 64, false⟩
noncomputable def memT (e : TypeId) : Mem := startMem [(0, tabB e)] 1
noncomputable def SPR : Specs := specs [(72, rrun Tryd.prog [0] noSpecs 300 300 72), (74, rrun Tryd.prog [0] noSpecs 300 300 74)]
theorem specsR (B : Bd) : SpecsOk Tryd.prog [0] B SPR := specs_ok fun p hp => by
  simp only [List.mem_cons, List.not_mem_nil, or_false] at hp
  rcases hp with rfl | rfl
  · exact rrun_ok noNumP mixedP (fun B => SpecsOk.none) (fun _ => rfl) 300 300 72
  · exact rrun_ok noNumP mixedP (fun B => SpecsOk.none) (fun _ => rfl) 300 300 74
end Go.Proofs.YtfhopcfafbmikaaDoor
namespace Go.Proofs.YtfhopcfafbmikaaDoor
noncomputable def SPT : Specs := specs [(46, Go.Am.arun Tryd.prog [0] SPR 300 46)]
theorem specsT (B : Bd) : SpecsOk Tryd.prog [0] B SPT := specs_ok fun p hp => by
  simp only [List.mem_cons, List.not_mem_nil, or_false] at hp
  subst hp
  exact SpecOk.arun noNumP mixedP (specsR B) 300 46
end Go.Proofs.YtfhopcfafbmikaaDoor
