/-
  No cell of these rows narrows 'for every input' (looked for: loops, veiled, ifaces, maps, wideKeys, modest, calm, conditions, laid).
  DERIVED. THE GIVEN ROWS OF THIS SEAT. 6 by the template 'for every input the law returns true; each argument reads behind the call as it read before'; 0 by the template 'total and deterministic' (their statements: YtdaglldahidmbaaTotals.lean).
  GIVEN WITH THE SEED: the statements are not yours to turn. If you find one false, say at which input.
  Laid BY PROGRAM, IN A SANDBOX (cutbox-rows.mjs): the forced cells as the released guide's own fill.sh prints them over the translation 525d5359d6791447… (all of the seat's roots in one cut). By AI agents, Wed Nov 11 2026. No macro, syntax, notation, axiom, sorry.
-/
import Derived.Test.YtdaglldahidmbaaChecked
import GoSem.Claim
import GoSem.ClaimJoined
import GoSem.ClaimMapViews
import Derived.JoinedTies
import Derived.KernelRfl
namespace Go.Proofs.Ytdaglldahidmbaa
/- THE CELL 'sum', in the pinned program and in every row, IS THE sha256 OF THE DUMP (.gsa) THAT YtdaglldahidmbaaProg.lean LOADS. Nothing in Lean hashes anything: it is a label: what it is worth is what the hold of that sum in a sandbox is worth. -/
noncomputable def Try.pinned : Pinned := { name := "ytdaglldahidmbaa", sum := "525d5359d6791447b1faf65960945881e76a15778ffbd3715b51371034846d2c", checked := Try.checked }
namespace Rows
def none {H : Type} : Left H := { results := [], args := [] }

/-- 'milestonelaw11.HierShort': WHATEVER THE INPUT: true; the input reads as it did. -/
def hierShortSpec : ChangeSpec := { name := "hierShort", fn := fun _ => fun
  | [d1, d2, d3] => { results := [.lit (.bool true)], args := [d1, d2, d3] }
  | _ => none }
def hierShortRow : OpenClaim := { program := "ytdaglldahidmbaa", sum := "525d5359d6791447b1faf65960945881e76a15778ffbd3715b51371034846d2c", func := "milestone/milestonelaw11.HierShort", spec := "hierShort", unfollowed := true, recurses := true, apart := false }
def HierShortSaid : Prop := hierShortRow.holds Try.pinned (OpenSpec.ofChange hierShortSpec)

/-- ITS FALSE NEIGHBOUR: 'it returns false'. Refute it at one input. -/
def hierShortWrong : ChangeSpec := { name := "hierShort", fn := fun _ => fun
  | [d1, d2, d3] => { results := [.lit (.bool false)], args := [d1, d2, d3] }
  | _ => none }
def HierShortWrongFalsely : Prop := hierShortRow.holds Try.pinned (OpenSpec.ofChange hierShortWrong)

/-- 'milestonelaw11.HierRanks': WHATEVER THE INPUT: true; the input reads as it did. -/
def hierRanksSpec : ChangeSpec := { name := "hierRanks", fn := fun _ => fun
  | [d1, d2, d3] => { results := [.lit (.bool true)], args := [d1, d2, d3] }
  | _ => none }
def hierRanksRow : OpenClaim := { program := "ytdaglldahidmbaa", sum := "525d5359d6791447b1faf65960945881e76a15778ffbd3715b51371034846d2c", func := "milestone/milestonelaw11.HierRanks", spec := "hierRanks", unfollowed := true, recurses := true, apart := false }
def HierRanksSaid : Prop := hierRanksRow.holds Try.pinned (OpenSpec.ofChange hierRanksSpec)

/-- ITS FALSE NEIGHBOUR: 'it returns false'. Refute it at one input. -/
def hierRanksWrong : ChangeSpec := { name := "hierRanks", fn := fun _ => fun
  | [d1, d2, d3] => { results := [.lit (.bool false)], args := [d1, d2, d3] }
  | _ => none }
def HierRanksWrongFalsely : Prop := hierRanksRow.holds Try.pinned (OpenSpec.ofChange hierRanksWrong)

/-- 'milestonelaw11.HierKeeps': WHATEVER THE INPUT: true; the input reads as it did. -/
def hierKeepsSpec : ChangeSpec := { name := "hierKeeps", fn := fun _ => fun
  | [d1, d2, d3] => { results := [.lit (.bool true)], args := [d1, d2, d3] }
  | _ => none }
def hierKeepsRow : OpenClaim := { program := "ytdaglldahidmbaa", sum := "525d5359d6791447b1faf65960945881e76a15778ffbd3715b51371034846d2c", func := "milestone/milestonelaw11.HierKeeps", spec := "hierKeeps", unfollowed := true, recurses := true, apart := false }
def HierKeepsSaid : Prop := hierKeepsRow.holds Try.pinned (OpenSpec.ofChange hierKeepsSpec)

/-- ITS FALSE NEIGHBOUR: 'it returns false'. Refute it at one input. -/
def hierKeepsWrong : ChangeSpec := { name := "hierKeeps", fn := fun _ => fun
  | [d1, d2, d3] => { results := [.lit (.bool false)], args := [d1, d2, d3] }
  | _ => none }
def HierKeepsWrongFalsely : Prop := hierKeepsRow.holds Try.pinned (OpenSpec.ofChange hierKeepsWrong)

/-- 'milestonelaw11.HierCore': WHATEVER THE INPUT: true; the input reads as it did. -/
def hierCoreSpec : ChangeSpec := { name := "hierCore", fn := fun _ => fun
  | [d1, d2] => { results := [.lit (.bool true)], args := [d1, d2] }
  | _ => none }
def hierCoreRow : OpenClaim := { program := "ytdaglldahidmbaa", sum := "525d5359d6791447b1faf65960945881e76a15778ffbd3715b51371034846d2c", func := "milestone/milestonelaw11.HierCore", spec := "hierCore", unfollowed := true, recurses := true, apart := false }
def HierCoreSaid : Prop := hierCoreRow.holds Try.pinned (OpenSpec.ofChange hierCoreSpec)

/-- ITS FALSE NEIGHBOUR: 'it returns false'. Refute it at one input. -/
def hierCoreWrong : ChangeSpec := { name := "hierCore", fn := fun _ => fun
  | [d1, d2] => { results := [.lit (.bool false)], args := [d1, d2] }
  | _ => none }
def HierCoreWrongFalsely : Prop := hierCoreRow.holds Try.pinned (OpenSpec.ofChange hierCoreWrong)

/-- 'milestonelaw11.HierCosts': WHATEVER THE INPUT: true; the input reads as it did. -/
def hierCostsSpec : ChangeSpec := { name := "hierCosts", fn := fun _ => fun
  | [d1, d2, d3] => { results := [.lit (.bool true)], args := [d1, d2, d3] }
  | _ => none }
def hierCostsRow : OpenClaim := { program := "ytdaglldahidmbaa", sum := "525d5359d6791447b1faf65960945881e76a15778ffbd3715b51371034846d2c", func := "milestone/milestonelaw11.HierCosts", spec := "hierCosts", unfollowed := true, recurses := true, apart := false }
def HierCostsSaid : Prop := hierCostsRow.holds Try.pinned (OpenSpec.ofChange hierCostsSpec)

/-- ITS FALSE NEIGHBOUR: 'it returns false'. Refute it at one input. -/
def hierCostsWrong : ChangeSpec := { name := "hierCosts", fn := fun _ => fun
  | [d1, d2, d3] => { results := [.lit (.bool false)], args := [d1, d2, d3] }
  | _ => none }
def HierCostsWrongFalsely : Prop := hierCostsRow.holds Try.pinned (OpenSpec.ofChange hierCostsWrong)

/-- 'milestonelaw11.HierLong': WHATEVER THE INPUT: true; the input reads as it did. -/
def hierLongSpec : ChangeSpec := { name := "hierLong", fn := fun _ => fun
  | [d] => { results := [.lit (.bool true)], args := [d] }
  | _ => none }
def hierLongRow : OpenClaim := { program := "ytdaglldahidmbaa", sum := "525d5359d6791447b1faf65960945881e76a15778ffbd3715b51371034846d2c", func := "milestone/milestonelaw11.HierLong", spec := "hierLong", unfollowed := true, recurses := true, apart := false }
def HierLongSaid : Prop := hierLongRow.holds Try.pinned (OpenSpec.ofChange hierLongSpec)

/-- ITS FALSE NEIGHBOUR: 'it returns false'. Refute it at one input. -/
def hierLongWrong : ChangeSpec := { name := "hierLong", fn := fun _ => fun
  | [d] => { results := [.lit (.bool false)], args := [d] }
  | _ => none }
def HierLongWrongFalsely : Prop := hierLongRow.holds Try.pinned (OpenSpec.ofChange hierLongWrong)

/- THE SECOND FORM. 'bulk': how many values and letters a reading holds, each counted each time it is reached (what is shared counts as often as it is met; a slice's spare places count too). A statement '..UptoSaid' is the law's where the arguments, and the package variables that the reading takes, are together of bulk at most 1048576: NARROWER than '..Said'. Prove '..Said' where nothing that the law and all that it calls make is longer than what came in: it says more and counts as full. Else prove '..UptoSaid'. A law counts once. -/
mutual
def uptoBulk {H : Type} : DataW H → Nat
  | .lit (.string bytes) => bytes.length + 1
  | .lit _ => 1
  | .nil => 1
  | .ptr d => uptoBulk d + 1
  | .slice elems spare => uptoBulkAll elems + uptoBulkAll spare + 1
  | .agg parts => uptoBulkAll parts + 1
  | .iface _ d => uptoBulk d + 1
  | .map entries => uptoBulkEntries entries + 1
  | .held _ => 1
def uptoBulkAll {H : Type} : List (DataW H) → Nat
  | [] => 0
  | d :: r => uptoBulk d + uptoBulkAll r
def uptoBulkEntries {H : Type} : List (Lit × DataW H) → Nat
  | [] => 0
  | x :: r => uptoBulkEntry x + uptoBulkEntries r
def uptoBulkEntry {H : Type} : Lit × DataW H → Nat
  | (.string bytes, d) => bytes.length + uptoBulk d + 1
  | (_, d) => uptoBulk d + 1
 end
def uptoSmall : (H : Type) → List (DataW H) → Bool := fun _ ds => decide (uptoBulkAll ds ≤ 1048576)
def OpenSpec.upto (s : _root_.Go.ChangeSpec) : _root_.Go.OpenSpec := { _root_.Go.OpenSpec.ofChange s with cond := some uptoSmall }

/-- 'milestonelaw11.HierShort', WHERE WHAT IT READS IS OF BULK AT MOST 1048576: true; the input reads as it did. -/
def hierShortUptoRow : OpenClaim := { program := "ytdaglldahidmbaa", sum := "525d5359d6791447b1faf65960945881e76a15778ffbd3715b51371034846d2c", func := "milestone/milestonelaw11.HierShort", spec := "hierShort", unfollowed := true, recurses := true, apart := false, narrowed := true }
def HierShortUptoSaid : Prop := hierShortUptoRow.holds Try.pinned (OpenSpec.upto hierShortSpec)

/-- 'milestonelaw11.HierRanks', WHERE WHAT IT READS IS OF BULK AT MOST 1048576: true; the input reads as it did. -/
def hierRanksUptoRow : OpenClaim := { program := "ytdaglldahidmbaa", sum := "525d5359d6791447b1faf65960945881e76a15778ffbd3715b51371034846d2c", func := "milestone/milestonelaw11.HierRanks", spec := "hierRanks", unfollowed := true, recurses := true, apart := false, narrowed := true }
def HierRanksUptoSaid : Prop := hierRanksUptoRow.holds Try.pinned (OpenSpec.upto hierRanksSpec)

/-- 'milestonelaw11.HierKeeps', WHERE WHAT IT READS IS OF BULK AT MOST 1048576: true; the input reads as it did. -/
def hierKeepsUptoRow : OpenClaim := { program := "ytdaglldahidmbaa", sum := "525d5359d6791447b1faf65960945881e76a15778ffbd3715b51371034846d2c", func := "milestone/milestonelaw11.HierKeeps", spec := "hierKeeps", unfollowed := true, recurses := true, apart := false, narrowed := true }
def HierKeepsUptoSaid : Prop := hierKeepsUptoRow.holds Try.pinned (OpenSpec.upto hierKeepsSpec)

/-- 'milestonelaw11.HierCore', WHERE WHAT IT READS IS OF BULK AT MOST 1048576: true; the input reads as it did. -/
def hierCoreUptoRow : OpenClaim := { program := "ytdaglldahidmbaa", sum := "525d5359d6791447b1faf65960945881e76a15778ffbd3715b51371034846d2c", func := "milestone/milestonelaw11.HierCore", spec := "hierCore", unfollowed := true, recurses := true, apart := false, narrowed := true }
def HierCoreUptoSaid : Prop := hierCoreUptoRow.holds Try.pinned (OpenSpec.upto hierCoreSpec)

/-- 'milestonelaw11.HierCosts', WHERE WHAT IT READS IS OF BULK AT MOST 1048576: true; the input reads as it did. -/
def hierCostsUptoRow : OpenClaim := { program := "ytdaglldahidmbaa", sum := "525d5359d6791447b1faf65960945881e76a15778ffbd3715b51371034846d2c", func := "milestone/milestonelaw11.HierCosts", spec := "hierCosts", unfollowed := true, recurses := true, apart := false, narrowed := true }
def HierCostsUptoSaid : Prop := hierCostsUptoRow.holds Try.pinned (OpenSpec.upto hierCostsSpec)

/-- 'milestonelaw11.HierLong', WHERE WHAT IT READS IS OF BULK AT MOST 1048576: true; the input reads as it did. -/
def hierLongUptoRow : OpenClaim := { program := "ytdaglldahidmbaa", sum := "525d5359d6791447b1faf65960945881e76a15778ffbd3715b51371034846d2c", func := "milestone/milestonelaw11.HierLong", spec := "hierLong", unfollowed := true, recurses := true, apart := false, narrowed := true }
def HierLongUptoSaid : Prop := hierLongUptoRow.holds Try.pinned (OpenSpec.upto hierLongSpec)

end Rows
end Go.Proofs.Ytdaglldahidmbaa
