/-
  What is proved: MiniSteady: a machine of Make's is steady just if a letter twice is a letter once: for every x, y, every word. For every argument; one laid table (math/bits) is tied by the card.
-/
import Derived.Test.YtchnlooenomfnaaGreatDoorGAmXView
import Derived.Test.YtchnlooenomfnaaGreatDoorGAmTree
import Derived.Deep.DeepHandedRow
import Derived.OpenShut
import Derived.ProofKit
import Derived.Test.YtchnlooenomfnaaGreatDoorGAmRF
import Derived.Test.YtchnlooenomfnaaGreatDoorProg
set_option linter.unusedVariables false
set_option linter.unusedSimpArgs false
noncomputable section
namespace Go.Am
open Go Go.ChangeShapes Go.WideShapes Go.ChangeAt Go.RowKit
variable {P : Program} {GL : List Nat} {B : Bd}
section
variable {H : Type} {enc : TypeId × Value → H} {w : World} {held : Bool}
end
end Go.Am
namespace Go.Am
open Go
variable {P : Program}
end Go.Am
end

set_option linter.unusedVariables false
set_option linter.unusedSimpArgs false
open Go Go.Am Go.Proofs
namespace Go.Proofs.YtchnlooenomfnaaGreatDoor
set_option maxRecDepth 100000
theorem noNumP : noNum Tryz.prog := by
  have h : Tryz.prog.funcs.all (fun fn => !(fn.name == "runtime.NumGoroutine")) = true := by kernel_rfl
  refine ⟨Nat.le_of_ble_eq_true (by kernel_rfl), fun f fn hf => ?_⟩
  have := (Array.all_eq_true_iff_forall_mem.1 h) fn (Array.mem_of_getElem? hf)
  simpa using this
theorem mixedP : Tryz.prog.follows .mixedOrders = true := by kernel_rfl
theorem laidOut : laidOutB Tryz.prog = true := by kernel_rfl
def tab64 : List Value := [.int .u8 0, .int .u8 1, .int .u8 56, .int .u8 2, .int .u8 57, .int .u8 49, .int .u8 28, .int .u8 3, .int .u8 61, .int .u8 58, .int .u8 42, .int .u8 50, .int .u8 38, .int .u8 29, .int .u8 17, .int .u8 4, .int .u8 62, .int .u8 47, .int .u8 59, .int .u8 36, .int .u8 45, .int .u8 43, .int .u8 51, .int .u8 22, .int .u8 53, .int .u8 39, .int .u8 33, .int .u8 30, .int .u8 24, .int .u8 18, .int .u8 12, .int .u8 5, .int .u8 63, .int .u8 55, .int .u8 48, .int .u8 27, .int .u8 60, .int .u8 41, .int .u8 37, .int .u8 16, .int .u8 46, .int .u8 35, .int .u8 44, .int .u8 21, .int .u8 52, .int .u8 32, .int .u8 23, .int .u8 11, .int .u8 54, .int .u8 26, .int .u8 40, .int .u8 15, .int .u8 34, .int .u8 20, .int .u8 31, .int .u8 10, .int .u8 25, .int .u8 14, .int .u8 19, .int .u8 9, .int .u8 13, .int .u8 8, .int .u8 7, .int .u8 6]
def tabB (e : TypeId) : ABlk := ⟨tab64, e, 1, 64, false⟩
noncomputable def memT (e : TypeId) : Mem := startMem [(0, tabB e)] 1
theorem noSpecsB : ∀ id, noSpecs.blocks id = none := fun _ => rfl
end Go.Proofs.YtchnlooenomfnaaGreatDoor

set_option linter.unusedVariables false
set_option linter.unusedSimpArgs false
open Go Go.Am Go.Proofs
namespace Go.Proofs.YtchnlooenomfnaaGreatDoor
set_option maxRecDepth 100000
noncomputable def BW : Code := Tryz.f40.body.get!
theorem bodyW : Tryz.f40.body = some BW := by kernel_rfl
theorem runWa (x n : Int) (M : Mem) : (xexec Tryz.prog [] noSpecs 50 BW ⟨initT [i64 x, i64 n] 0 .nil, Tryz.f40.ntmps, M⟩ [tru 7, tru 14] 0).map (fun r => (r.1.1, r.1.2.M, aresults Tryz.prog Tryz.f40 r.1.2, r.2.2.2.map (view noDoors []))) =
    some (.ret, M, some (i64 (IntKind.wrap .i64 (x.tmod n + n))), [.nz n, .b (decide (x.tmod n < 0)) (.val (.bool true))]) := by kernel_rfl
theorem runWb (x n : Int) (M : Mem) : (xexec Tryz.prog [] noSpecs 50 BW ⟨initT [i64 x, i64 n] 0 .nil, Tryz.f40.ntmps, M⟩ [tru 7, fls 14] 0).map (fun r => (r.1.1, r.1.2.M, aresults Tryz.prog Tryz.f40 r.1.2, r.2.2.2.map (view noDoors []))) =
    some (.ret, M, some (i64 (x.tmod n)), [.nz n, .b (decide (x.tmod n < 0)) (.val (.bool false))]) := by kernel_rfl
theorem okMod (B : Bd) : SpecOk Tryz.prog [] B 40 gMod := SpecOk.mod (fun B x n M hn hn2 => by
  have hne : n ≠ 0 := by omega
  refine ⟨noSpecs, 50, SpecsOk.none, ?_⟩
  by_cases h : x.tmod n < 0
  · obtain ⟨M', h1, h2⟩ := xrun_of (look := fun M => M) Tryz.func40 bodyW (by kernel_rfl) (runWa x n M) (.inr rfl) (by
      intro p hp; simp only [List.mem_cons, List.not_mem_nil, or_false] at hp
      rcases hp with rfl | rfl
      · exact hne
      · exact qd h)
    rw [h1, h2, modI_neg hn hn2 h]
  · obtain ⟨M', h1, h2⟩ := xrun_of (look := fun M => M) Tryz.func40 bodyW (by kernel_rfl) (runWb x n M) (.inr rfl) (by
      intro p hp; simp only [List.mem_cons, List.not_mem_nil, or_false] at hp
      rcases hp with rfl | rfl
      · exact hne
      · exact qdn h)
    rw [h1, h2, ← modI_pos h]) noNumP mixedP
noncomputable def BWb : Code := Tryz.f50.body.get!
theorem bodyWb : Tryz.f50.body = some BWb := by kernel_rfl
theorem runWab (x n : Int) (M : Mem) : (xexec Tryz.prog [] noSpecs 50 BWb ⟨initT [i64 x, i64 n] 0 .nil, Tryz.f50.ntmps, M⟩ [tru 7, tru 14] 0).map (fun r => (r.1.1, r.1.2.M, aresults Tryz.prog Tryz.f50 r.1.2, r.2.2.2.map (view noDoors []))) =
    some (.ret, M, some (i64 (IntKind.wrap .i64 (x.tmod n + n))), [.nz n, .b (decide (x.tmod n < 0)) (.val (.bool true))]) := by kernel_rfl
theorem runWbb (x n : Int) (M : Mem) : (xexec Tryz.prog [] noSpecs 50 BWb ⟨initT [i64 x, i64 n] 0 .nil, Tryz.f50.ntmps, M⟩ [tru 7, fls 14] 0).map (fun r => (r.1.1, r.1.2.M, aresults Tryz.prog Tryz.f50 r.1.2, r.2.2.2.map (view noDoors []))) =
    some (.ret, M, some (i64 (x.tmod n)), [.nz n, .b (decide (x.tmod n < 0)) (.val (.bool false))]) := by kernel_rfl
theorem okModb (B : Bd) : SpecOk Tryz.prog [] B 50 gMod := SpecOk.mod (fun B x n M hn hn2 => by
  have hne : n ≠ 0 := by omega
  refine ⟨noSpecs, 50, SpecsOk.none, ?_⟩
  by_cases h : x.tmod n < 0
  · obtain ⟨M', h1, h2⟩ := xrun_of (look := fun M => M) Tryz.func50 bodyWb (by kernel_rfl) (runWab x n M) (.inr rfl) (by
      intro p hp; simp only [List.mem_cons, List.not_mem_nil, or_false] at hp
      rcases hp with rfl | rfl
      · exact hne
      · exact qd h)
    rw [h1, h2, modI_neg hn hn2 h]
  · obtain ⟨M', h1, h2⟩ := xrun_of (look := fun M => M) Tryz.func50 bodyWb (by kernel_rfl) (runWbb x n M) (.inr rfl) (by
      intro p hp; simp only [List.mem_cons, List.not_mem_nil, or_false] at hp
      rcases hp with rfl | rfl
      · exact hne
      · exact qdn h)
    rw [h1, h2, ← modI_pos h]) noNumP mixedP
end Go.Proofs.YtchnlooenomfnaaGreatDoor
