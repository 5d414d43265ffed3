/-
  No cell of these rows narrows 'for every input' (looked for: loops, veiled, ifaces, maps, wideKeys, modest, calm, conditions, laid).
  DERIVED. THE GIVEN ROWS OF THIS SEAT. 5 by the template 'for every input the law returns true; each argument reads behind the call as it read before'; 0 by the template 'total and deterministic' (their statements: YtdaglldahidmbaaGreatTotals.lean).
  GIVEN WITH THE SEED: the statements are not yours to turn. If you find one false, say at which input.
  Laid BY PROGRAM, IN A SANDBOX (cutbox-rows.mjs): the forced cells as the released guide's own fill.sh prints them over the translation 484bb0ccce1cc8c2… (all of the seat's roots in one cut). By AI agents, Wed Nov 11 2026. No macro, syntax, notation, axiom, sorry.
-/
import Derived.Test.YtdaglldahidmbaaGreatChecked
import GoSem.Claim
import GoSem.ClaimJoined
import GoSem.ClaimMapViews
import Derived.JoinedTies
import Derived.KernelRfl
namespace Go.Proofs.YtdaglldahidmbaaGreat
/- THE CELL 'sum', in the pinned program and in every row, IS THE sha256 OF THE DUMP (.gsa) THAT YtdaglldahidmbaaGreatProg.lean LOADS. Nothing in Lean hashes anything: it is a label: what it is worth is what the hold of that sum in a sandbox is worth. -/
noncomputable def Tryz.pinned : Pinned := { name := "ytdaglldahidmbaagreat", sum := "484bb0ccce1cc8c2e4b8ebbddee3d915656a8d7a7c119bba19360f291b4a0bb2", checked := Tryz.checked }
namespace Rows
def none {H : Type} : Left H := { results := [], args := [] }

/-- 'milestonelaw11.HierBuilds': WHATEVER THE INPUT: true; the input reads as it did. -/
def hierBuildsSpec : ChangeSpec := { name := "hierBuilds", fn := fun _ => fun
  | [d1, d2, d3] => { results := [.lit (.bool true)], args := [d1, d2, d3] }
  | _ => none }
def hierBuildsRow : OpenClaim := { program := "ytdaglldahidmbaagreat", sum := "484bb0ccce1cc8c2e4b8ebbddee3d915656a8d7a7c119bba19360f291b4a0bb2", func := "milestone/milestonelaw11.HierBuilds", spec := "hierBuilds", unfollowed := true, recurses := true, apart := false }
def HierBuildsSaid : Prop := hierBuildsRow.holds Tryz.pinned (OpenSpec.ofChange hierBuildsSpec)

/-- ITS FALSE NEIGHBOUR: 'it returns false'. Refute it at one input. -/
def hierBuildsWrong : ChangeSpec := { name := "hierBuilds", fn := fun _ => fun
  | [d1, d2, d3] => { results := [.lit (.bool false)], args := [d1, d2, d3] }
  | _ => none }
def HierBuildsWrongFalsely : Prop := hierBuildsRow.holds Tryz.pinned (OpenSpec.ofChange hierBuildsWrong)

/-- 'milestonelaw11.HierChecks': WHATEVER THE INPUT: true; the input reads as it did. -/
def hierChecksSpec : ChangeSpec := { name := "hierChecks", fn := fun _ => fun
  | [d1, d2, d3, d4, d5, d6, d7] => { results := [.lit (.bool true)], args := [d1, d2, d3, d4, d5, d6, d7] }
  | _ => none }
def hierChecksRow : OpenClaim := { program := "ytdaglldahidmbaagreat", sum := "484bb0ccce1cc8c2e4b8ebbddee3d915656a8d7a7c119bba19360f291b4a0bb2", func := "milestone/milestonelaw11.HierChecks", spec := "hierChecks", unfollowed := true, recurses := true, apart := false }
def HierChecksSaid : Prop := hierChecksRow.holds Tryz.pinned (OpenSpec.ofChange hierChecksSpec)

/-- ITS FALSE NEIGHBOUR: 'it returns false'. Refute it at one input. -/
def hierChecksWrong : ChangeSpec := { name := "hierChecks", fn := fun _ => fun
  | [d1, d2, d3, d4, d5, d6, d7] => { results := [.lit (.bool false)], args := [d1, d2, d3, d4, d5, d6, d7] }
  | _ => none }
def HierChecksWrongFalsely : Prop := hierChecksRow.holds Tryz.pinned (OpenSpec.ofChange hierChecksWrong)

/-- 'milestonelaw11.HierArcs': WHATEVER THE INPUT: true; the input reads as it did. -/
def hierArcsSpec : ChangeSpec := { name := "hierArcs", fn := fun _ => fun
  | [d1, d2, d3] => { results := [.lit (.bool true)], args := [d1, d2, d3] }
  | _ => none }
def hierArcsRow : OpenClaim := { program := "ytdaglldahidmbaagreat", sum := "484bb0ccce1cc8c2e4b8ebbddee3d915656a8d7a7c119bba19360f291b4a0bb2", func := "milestone/milestonelaw11.HierArcs", spec := "hierArcs", unfollowed := true, recurses := true, apart := false }
def HierArcsSaid : Prop := hierArcsRow.holds Tryz.pinned (OpenSpec.ofChange hierArcsSpec)

/-- ITS FALSE NEIGHBOUR: 'it returns false'. Refute it at one input. -/
def hierArcsWrong : ChangeSpec := { name := "hierArcs", fn := fun _ => fun
  | [d1, d2, d3] => { results := [.lit (.bool false)], args := [d1, d2, d3] }
  | _ => none }
def HierArcsWrongFalsely : Prop := hierArcsRow.holds Tryz.pinned (OpenSpec.ofChange hierArcsWrong)

/-- 'milestonelaw11.HierOwn': WHATEVER THE INPUT: true; the input reads as it did. -/
def hierOwnSpec : ChangeSpec := { name := "hierOwn", fn := fun _ => fun
  | [d1, d2, d3] => { results := [.lit (.bool true)], args := [d1, d2, d3] }
  | _ => none }
def hierOwnRow : OpenClaim := { program := "ytdaglldahidmbaagreat", sum := "484bb0ccce1cc8c2e4b8ebbddee3d915656a8d7a7c119bba19360f291b4a0bb2", func := "milestone/milestonelaw11.HierOwn", spec := "hierOwn", unfollowed := true, recurses := true, apart := false }
def HierOwnSaid : Prop := hierOwnRow.holds Tryz.pinned (OpenSpec.ofChange hierOwnSpec)

/-- ITS FALSE NEIGHBOUR: 'it returns false'. Refute it at one input. -/
def hierOwnWrong : ChangeSpec := { name := "hierOwn", fn := fun _ => fun
  | [d1, d2, d3] => { results := [.lit (.bool false)], args := [d1, d2, d3] }
  | _ => none }
def HierOwnWrongFalsely : Prop := hierOwnRow.holds Tryz.pinned (OpenSpec.ofChange hierOwnWrong)

/-- 'milestonelaw11.HierLine': WHATEVER THE INPUT: true; the input reads as it did. -/
def hierLineSpec : ChangeSpec := { name := "hierLine", fn := fun _ => fun
  | [d1, d2] => { results := [.lit (.bool true)], args := [d1, d2] }
  | _ => none }
def hierLineRow : OpenClaim := { program := "ytdaglldahidmbaagreat", sum := "484bb0ccce1cc8c2e4b8ebbddee3d915656a8d7a7c119bba19360f291b4a0bb2", func := "milestone/milestonelaw11.HierLine", spec := "hierLine", unfollowed := true, recurses := true, apart := false }
def HierLineSaid : Prop := hierLineRow.holds Tryz.pinned (OpenSpec.ofChange hierLineSpec)

/-- ITS FALSE NEIGHBOUR: 'it returns false'. Refute it at one input. -/
def hierLineWrong : ChangeSpec := { name := "hierLine", fn := fun _ => fun
  | [d1, d2] => { results := [.lit (.bool false)], args := [d1, d2] }
  | _ => none }
def HierLineWrongFalsely : Prop := hierLineRow.holds Tryz.pinned (OpenSpec.ofChange hierLineWrong)

/- THE SECOND FORM. 'bulk': how many values and letters a reading holds, each counted each time it is reached (what is shared counts as often as it is met; a slice's spare places count too). A statement '..UptoSaid' is the law's where the arguments, and the package variables that the reading takes, are together of bulk at most 1048576: NARROWER than '..Said'. Prove '..Said' where nothing that the law and all that it calls make is longer than what came in: it says more and counts as full. Else prove '..UptoSaid'. A law counts once. -/
mutual
def uptoBulk {H : Type} : DataW H → Nat
  | .lit (.string bytes) => bytes.length + 1
  | .lit _ => 1
  | .nil => 1
  | .ptr d => uptoBulk d + 1
  | .slice elems spare => uptoBulkAll elems + uptoBulkAll spare + 1
  | .agg parts => uptoBulkAll parts + 1
  | .iface _ d => uptoBulk d + 1
  | .map entries => uptoBulkEntries entries + 1
  | .held _ => 1
def uptoBulkAll {H : Type} : List (DataW H) → Nat
  | [] => 0
  | d :: r => uptoBulk d + uptoBulkAll r
def uptoBulkEntries {H : Type} : List (Lit × DataW H) → Nat
  | [] => 0
  | x :: r => uptoBulkEntry x + uptoBulkEntries r
def uptoBulkEntry {H : Type} : Lit × DataW H → Nat
  | (.string bytes, d) => bytes.length + uptoBulk d + 1
  | (_, d) => uptoBulk d + 1
 end
def uptoSmall : (H : Type) → List (DataW H) → Bool := fun _ ds => decide (uptoBulkAll ds ≤ 1048576)
def OpenSpec.upto (s : _root_.Go.ChangeSpec) : _root_.Go.OpenSpec := { _root_.Go.OpenSpec.ofChange s with cond := some uptoSmall }

/-- 'milestonelaw11.HierBuilds', WHERE WHAT IT READS IS OF BULK AT MOST 1048576: true; the input reads as it did. -/
def hierBuildsUptoRow : OpenClaim := { program := "ytdaglldahidmbaagreat", sum := "484bb0ccce1cc8c2e4b8ebbddee3d915656a8d7a7c119bba19360f291b4a0bb2", func := "milestone/milestonelaw11.HierBuilds", spec := "hierBuilds", unfollowed := true, recurses := true, apart := false, narrowed := true }
def HierBuildsUptoSaid : Prop := hierBuildsUptoRow.holds Tryz.pinned (OpenSpec.upto hierBuildsSpec)

/-- 'milestonelaw11.HierChecks', WHERE WHAT IT READS IS OF BULK AT MOST 1048576: true; the input reads as it did. -/
def hierChecksUptoRow : OpenClaim := { program := "ytdaglldahidmbaagreat", sum := "484bb0ccce1cc8c2e4b8ebbddee3d915656a8d7a7c119bba19360f291b4a0bb2", func := "milestone/milestonelaw11.HierChecks", spec := "hierChecks", unfollowed := true, recurses := true, apart := false, narrowed := true }
def HierChecksUptoSaid : Prop := hierChecksUptoRow.holds Tryz.pinned (OpenSpec.upto hierChecksSpec)

/-- 'milestonelaw11.HierArcs', WHERE WHAT IT READS IS OF BULK AT MOST 1048576: true; the input reads as it did. -/
def hierArcsUptoRow : OpenClaim := { program := "ytdaglldahidmbaagreat", sum := "484bb0ccce1cc8c2e4b8ebbddee3d915656a8d7a7c119bba19360f291b4a0bb2", func := "milestone/milestonelaw11.HierArcs", spec := "hierArcs", unfollowed := true, recurses := true, apart := false, narrowed := true }
def HierArcsUptoSaid : Prop := hierArcsUptoRow.holds Tryz.pinned (OpenSpec.upto hierArcsSpec)

/-- 'milestonelaw11.HierOwn', WHERE WHAT IT READS IS OF BULK AT MOST 1048576: true; the input reads as it did. -/
def hierOwnUptoRow : OpenClaim := { program := "ytdaglldahidmbaagreat", sum := "484bb0ccce1cc8c2e4b8ebbddee3d915656a8d7a7c119bba19360f291b4a0bb2", func := "milestone/milestonelaw11.HierOwn", spec := "hierOwn", unfollowed := true, recurses := true, apart := false, narrowed := true }
def HierOwnUptoSaid : Prop := hierOwnUptoRow.holds Tryz.pinned (OpenSpec.upto hierOwnSpec)

/-- 'milestonelaw11.HierLine', WHERE WHAT IT READS IS OF BULK AT MOST 1048576: true; the input reads as it did. -/
def hierLineUptoRow : OpenClaim := { program := "ytdaglldahidmbaagreat", sum := "484bb0ccce1cc8c2e4b8ebbddee3d915656a8d7a7c119bba19360f291b4a0bb2", func := "milestone/milestonelaw11.HierLine", spec := "hierLine", unfollowed := true, recurses := true, apart := false, narrowed := true }
def HierLineUptoSaid : Prop := hierLineUptoRow.holds Tryz.pinned (OpenSpec.upto hierLineSpec)

end Rows
end Go.Proofs.YtdaglldahidmbaaGreat
