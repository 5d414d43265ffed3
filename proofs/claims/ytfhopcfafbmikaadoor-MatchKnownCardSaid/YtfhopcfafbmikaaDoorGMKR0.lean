/-
  Proved: of these twenty texts and words whether the word is in the text's language, as milestonelaw5.MatchKnown asks it, holds whatever the argument is. Conditions: those of the given row alone (the table math/bits.deBruijn64tab starts as the program's text lays it).
-/
import Derived.Test.YtfhopcfafbmikaaDoorGMB
import Derived.Test.YtfhopcfafbmikaaDoorAmFast
import Derived.Test.YtfhopcfafbmikaaDoorMQ2
open Go Go.Am Go.Proofs
namespace Go.Proofs.YtfhopcfafbmikaaDoor.matchKnown
set_option maxRecDepth 100000
noncomputable def BL : Code := Tryd.f7.body.get!
theorem bodyL : Tryd.f7.body = some BL := by kernel_rfl
noncomputable def SPL : Specs := specs [(12, ansNone (.bool true)), (20, gMod), (24, Go.Am.qrun Tryd.prog [0] SPT qts2 2000 24), (16, Go.Am.qrun Tryd.prog [0] SPT qts2 2000 16)]
theorem specsL (B : Bd) : SpecsOk Tryd.prog [0] B SPL := specs_ok fun p hp => by
  simp only [List.mem_cons, List.not_mem_nil, or_false] at hp
  rcases hp with rfl | rfl | rfl | rfl
  · exact (okKnown B).gl
  · exact (okMod B).gl
  · exact SpecOk.qrun noNumP mixedP qok2 (fun _ => rfl) specsT 2000 24
  · exact SpecOk.qrun noNumP mixedP qok2 (fun _ => rfl) specsT 2000 16
noncomputable def runL (e : TypeId) (x0 : Int)  (F : List Fact) :=
  (xexec Tryd.prog [0] SPL 2000 BL ⟨initT [i64 x0] 0 .nil, Tryd.f7.ntmps, memT e⟩ F 0).map (fun r => (r.1.1, (), aresults Tryd.prog Tryd.f7 r.1.2, r.2.2.2.map (view noDoors [])))
end Go.Proofs.YtfhopcfafbmikaaDoor.matchKnown

open Go Go.Am Go.Proofs
namespace Go.Proofs.YtfhopcfafbmikaaDoor.matchKnown
set_option maxRecDepth 100000
theorem runL_0 (e : TypeId) (x0 : Int) : runL e x0  [got 66 (i64 ((0 : Nat) : Int))] = some (.ret, (), some (.bool true), [.cr 20 [i64 x0, i64 20] [] (.val (i64 ((0 : Nat) : Int)))]) := by kernel_rfl
theorem runL_1 (e : TypeId) (x0 : Int) : runL e x0  [got 66 (i64 ((1 : Nat) : Int))] = some (.ret, (), some (.bool true), [.cr 20 [i64 x0, i64 20] [] (.val (i64 ((1 : Nat) : Int)))]) := by kernel_rfl
theorem runL_2 (e : TypeId) (x0 : Int) : runL e x0  [got 66 (i64 ((2 : Nat) : Int))] = some (.ret, (), some (.bool true), [.cr 20 [i64 x0, i64 20] [] (.val (i64 ((2 : Nat) : Int)))]) := by kernel_rfl
end Go.Proofs.YtfhopcfafbmikaaDoor.matchKnown

open Go Go.Am Go.Proofs
namespace Go.Proofs.YtfhopcfafbmikaaDoor.matchKnown
set_option maxRecDepth 100000
theorem runL_3 (e : TypeId) (x0 : Int) : runL e x0  [got 66 (i64 ((3 : Nat) : Int))] = some (.ret, (), some (.bool true), [.cr 20 [i64 x0, i64 20] [] (.val (i64 ((3 : Nat) : Int)))]) := by kernel_rfl
theorem runL_4 (e : TypeId) (x0 : Int) : runL e x0  [got 66 (i64 ((4 : Nat) : Int))] = some (.ret, (), some (.bool true), [.cr 20 [i64 x0, i64 20] [] (.val (i64 ((4 : Nat) : Int)))]) := by kernel_rfl
theorem runL_5 (e : TypeId) (x0 : Int) : runL e x0  [got 66 (i64 ((5 : Nat) : Int))] = some (.ret, (), some (.bool true), [.cr 20 [i64 x0, i64 20] [] (.val (i64 ((5 : Nat) : Int)))]) := by kernel_rfl
end Go.Proofs.YtfhopcfafbmikaaDoor.matchKnown

open Go Go.Am Go.Proofs
namespace Go.Proofs.YtfhopcfafbmikaaDoor.matchKnown
set_option maxRecDepth 100000
theorem runL_6 (e : TypeId) (x0 : Int) : runL e x0  [got 66 (i64 ((6 : Nat) : Int))] = some (.ret, (), some (.bool true), [.cr 20 [i64 x0, i64 20] [] (.val (i64 ((6 : Nat) : Int)))]) := by kernel_rfl
theorem runL_7 (e : TypeId) (x0 : Int) : runL e x0  [got 66 (i64 ((7 : Nat) : Int))] = some (.ret, (), some (.bool true), [.cr 20 [i64 x0, i64 20] [] (.val (i64 ((7 : Nat) : Int)))]) := by kernel_rfl
theorem runL_8 (e : TypeId) (x0 : Int) : runL e x0  [got 66 (i64 ((8 : Nat) : Int))] = some (.ret, (), some (.bool true), [.cr 20 [i64 x0, i64 20] [] (.val (i64 ((8 : Nat) : Int)))]) := by kernel_rfl
end Go.Proofs.YtfhopcfafbmikaaDoor.matchKnown

open Go Go.Am Go.Proofs
namespace Go.Proofs.YtfhopcfafbmikaaDoor.matchKnown
set_option maxRecDepth 100000
theorem runL_9 (e : TypeId) (x0 : Int) : runL e x0  [got 66 (i64 ((9 : Nat) : Int))] = some (.ret, (), some (.bool true), [.cr 20 [i64 x0, i64 20] [] (.val (i64 ((9 : Nat) : Int)))]) := by kernel_rfl
theorem runL_10 (e : TypeId) (x0 : Int) : runL e x0  [got 66 (i64 ((10 : Nat) : Int))] = some (.ret, (), some (.bool true), [.cr 20 [i64 x0, i64 20] [] (.val (i64 ((10 : Nat) : Int)))]) := by kernel_rfl
theorem runL_11 (e : TypeId) (x0 : Int) : runL e x0  [got 66 (i64 ((11 : Nat) : Int))] = some (.ret, (), some (.bool true), [.cr 20 [i64 x0, i64 20] [] (.val (i64 ((11 : Nat) : Int)))]) := by kernel_rfl
end Go.Proofs.YtfhopcfafbmikaaDoor.matchKnown

open Go Go.Am Go.Proofs
namespace Go.Proofs.YtfhopcfafbmikaaDoor.matchKnown
set_option maxRecDepth 100000
theorem runL_12 (e : TypeId) (x0 : Int) : runL e x0  [got 66 (i64 ((12 : Nat) : Int))] = some (.ret, (), some (.bool true), [.cr 20 [i64 x0, i64 20] [] (.val (i64 ((12 : Nat) : Int)))]) := by kernel_rfl
theorem runL_13 (e : TypeId) (x0 : Int) : runL e x0  [got 66 (i64 ((13 : Nat) : Int))] = some (.ret, (), some (.bool true), [.cr 20 [i64 x0, i64 20] [] (.val (i64 ((13 : Nat) : Int)))]) := by kernel_rfl
theorem runL_14 (e : TypeId) (x0 : Int) : runL e x0  [got 66 (i64 ((14 : Nat) : Int))] = some (.ret, (), some (.bool true), [.cr 20 [i64 x0, i64 20] [] (.val (i64 ((14 : Nat) : Int)))]) := by kernel_rfl
end Go.Proofs.YtfhopcfafbmikaaDoor.matchKnown

open Go Go.Am Go.Proofs
namespace Go.Proofs.YtfhopcfafbmikaaDoor.matchKnown
set_option maxRecDepth 100000
theorem runL_15 (e : TypeId) (x0 : Int) : runL e x0  [got 66 (i64 ((15 : Nat) : Int))] = some (.ret, (), some (.bool true), [.cr 20 [i64 x0, i64 20] [] (.val (i64 ((15 : Nat) : Int)))]) := by kernel_rfl
theorem runL_16 (e : TypeId) (x0 : Int) : runL e x0  [got 66 (i64 ((16 : Nat) : Int))] = some (.ret, (), some (.bool true), [.cr 20 [i64 x0, i64 20] [] (.val (i64 ((16 : Nat) : Int)))]) := by kernel_rfl
theorem runL_17 (e : TypeId) (x0 : Int) : runL e x0  [got 66 (i64 ((17 : Nat) : Int))] = some (.ret, (), some (.bool true), [.cr 20 [i64 x0, i64 20] [] (.val (i64 ((17 : Nat) : Int)))]) := by kernel_rfl
end Go.Proofs.YtfhopcfafbmikaaDoor.matchKnown

open Go Go.Am Go.Proofs
namespace Go.Proofs.YtfhopcfafbmikaaDoor.matchKnown
set_option maxRecDepth 100000
theorem runL_18 (e : TypeId) (x0 : Int) : runL e x0  [got 66 (i64 ((18 : Nat) : Int))] = some (.ret, (), some (.bool true), [.cr 20 [i64 x0, i64 20] [] (.val (i64 ((18 : Nat) : Int)))]) := by kernel_rfl
theorem runL_19 (e : TypeId) (x0 : Int) : runL e x0  [got 66 (i64 ((19 : Nat) : Int))] = some (.ret, (), some (.bool true), [.cr 20 [i64 x0, i64 20] [] (.val (i64 ((19 : Nat) : Int)))]) := by kernel_rfl
end Go.Proofs.YtfhopcfafbmikaaDoor.matchKnown
