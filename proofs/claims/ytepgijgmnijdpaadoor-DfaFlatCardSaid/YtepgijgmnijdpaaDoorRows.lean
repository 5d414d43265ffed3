/-
  NARROWER THAN 'FOR EVERY INPUT', by the rows' own cells (each row's printed sentence says how): DfaChecks: laid · DfaRuns: laid · DfaParts: laid · DfaSubsets: laid · DfaTakes: loops, laid · DfaCaps: loops, laid · DfaEach: laid · DfaMet: laid · DfaFlat: laid.
  DERIVED. THE GIVEN ROWS OF THIS SEAT. 9 by the template 'for every input the law returns true; each argument reads behind the call as it read before'; 0 by the template 'total and deterministic' (their statements: YtepgijgmnijdpaaDoorTotals.lean).
  GIVEN WITH THE SEED: the statements are not yours to turn. If you find one false, say at which input.
  Laid BY PROGRAM, IN A SANDBOX (cutbox-rows.mjs): the forced cells as the released guide's own fill.sh prints them over the translation 6acdf23ce6438c76… (all of the seat's roots in one cut). By AI agents, Wed Nov 11 2026. No macro, syntax, notation, axiom, sorry.
-/
import Derived.Test.YtepgijgmnijdpaaDoorChecked
import GoSem.Claim
import GoSem.ClaimJoined
import GoSem.ClaimMapViews
import Derived.JoinedTies
import Derived.KernelRfl
namespace Go.Proofs.YtepgijgmnijdpaaDoor
/- THE CELL 'sum', in the pinned program and in every row, IS THE sha256 OF THE DUMP (.gsa) THAT YtepgijgmnijdpaaDoorProg.lean LOADS. Nothing in Lean hashes anything: it is a label: what it is worth is what the hold of that sum in a sandbox is worth. -/
noncomputable def Tryd.pinned : Pinned := { name := "ytepgijgmnijdpaadoor", sum := "6acdf23ce6438c767ef768e26f07d2d75dc044b4dc6766df23933df06b56d086", checked := Tryd.checked }
namespace Rows
def none {H : Type} : Left H := { results := [], args := [] }

/- WHAT THE LISTED PACKAGE-LEVEL VARIABLES READ AS WHEN THE CALL BEGINS. Each datum BY PROGRAM (the guide's laid-datum.mjs) off the statement by which the dump's own 'gosem.cut.vars' lays the variable. In a bare row this is a premise. The card (YtepgijgmnijdpaaDoorCards.lean) ties it to the program's text. -/
def laid_math_bits_deBruijn64tab {H : Type} : DataW H := .agg [.lit (.int .u8 0), .lit (.int .u8 1), .lit (.int .u8 56), .lit (.int .u8 2), .lit (.int .u8 57), .lit (.int .u8 49), .lit (.int .u8 28), .lit (.int .u8 3), .lit (.int .u8 61), .lit (.int .u8 58), .lit (.int .u8 42), .lit (.int .u8 50), .lit (.int .u8 38), .lit (.int .u8 29), .lit (.int .u8 17), .lit (.int .u8 4), .lit (.int .u8 62), .lit (.int .u8 47), .lit (.int .u8 59), .lit (.int .u8 36), .lit (.int .u8 45), .lit (.int .u8 43), .lit (.int .u8 51), .lit (.int .u8 22), .lit (.int .u8 53), .lit (.int .u8 39), .lit (.int .u8 33), .lit (.int .u8 30), .lit (.int .u8 24), .lit (.int .u8 18), .lit (.int .u8 12), .lit (.int .u8 5), .lit (.int .u8 63), .lit (.int .u8 55), .lit (.int .u8 48), .lit (.int .u8 27), .lit (.int .u8 60), .lit (.int .u8 41), .lit (.int .u8 37), .lit (.int .u8 16), .lit (.int .u8 46), .lit (.int .u8 35), .lit (.int .u8 44), .lit (.int .u8 21), .lit (.int .u8 52), .lit (.int .u8 32), .lit (.int .u8 23), .lit (.int .u8 11), .lit (.int .u8 54), .lit (.int .u8 26), .lit (.int .u8 40), .lit (.int .u8 15), .lit (.int .u8 34), .lit (.int .u8 20), .lit (.int .u8 31), .lit (.int .u8 10), .lit (.int .u8 25), .lit (.int .u8 14), .lit (.int .u8 19), .lit (.int .u8 9), .lit (.int .u8 13), .lit (.int .u8 8), .lit (.int .u8 7), .lit (.int .u8 6)]

/-- 'milestonelaw7.DfaChecks': WHATEVER THE INPUT: true; the input reads as it did. -/
def dfaChecksSpec : ChangeSpec := { name := "dfaChecks", fn := fun _ => fun
  | [d1, d2, d3, d4, d5, d6] => { results := [.lit (.bool true)], args := [d1, d2, d3, d4, d5, d6] }
  | _ => none }
def dfaChecksRow : OpenClaim := { program := "ytepgijgmnijdpaadoor", sum := "6acdf23ce6438c767ef768e26f07d2d75dc044b4dc6766df23933df06b56d086", func := "milestone/milestonelaw7.DfaChecks", spec := "dfaChecks", inPlace := ["slices.overlaps[milestone/dfa.known]"], unfollowed := true, recurses := true, named := ["math/bits.deBruijn64tab"], apart := false, laid := [("math/bits.deBruijn64tab", laid_math_bits_deBruijn64tab)] }
def DfaChecksSaid : Prop := dfaChecksRow.holds Tryd.pinned (OpenSpec.ofChange dfaChecksSpec)

/-- ITS FALSE NEIGHBOUR: 'it returns false'. Refute it at one input. -/
def dfaChecksWrong : ChangeSpec := { name := "dfaChecks", fn := fun _ => fun
  | [d1, d2, d3, d4, d5, d6] => { results := [.lit (.bool false)], args := [d1, d2, d3, d4, d5, d6] }
  | _ => none }
def DfaChecksWrongFalsely : Prop := dfaChecksRow.holds Tryd.pinned (OpenSpec.ofChange dfaChecksWrong)

/-- 'milestonelaw7.DfaRuns': WHATEVER THE INPUT: true; the input reads as it did. -/
def dfaRunsSpec : ChangeSpec := { name := "dfaRuns", fn := fun _ => fun
  | [d1, d2, d3, d4, d5, d6] => { results := [.lit (.bool true)], args := [d1, d2, d3, d4, d5, d6] }
  | _ => none }
def dfaRunsRow : OpenClaim := { program := "ytepgijgmnijdpaadoor", sum := "6acdf23ce6438c767ef768e26f07d2d75dc044b4dc6766df23933df06b56d086", func := "milestone/milestonelaw7.DfaRuns", spec := "dfaRuns", inPlace := ["slices.overlaps[milestone/dfa.known]"], unfollowed := true, recurses := true, named := ["math/bits.deBruijn64tab"], apart := false, laid := [("math/bits.deBruijn64tab", laid_math_bits_deBruijn64tab)] }
def DfaRunsSaid : Prop := dfaRunsRow.holds Tryd.pinned (OpenSpec.ofChange dfaRunsSpec)

/-- ITS FALSE NEIGHBOUR: 'it returns false'. Refute it at one input. -/
def dfaRunsWrong : ChangeSpec := { name := "dfaRuns", fn := fun _ => fun
  | [d1, d2, d3, d4, d5, d6] => { results := [.lit (.bool false)], args := [d1, d2, d3, d4, d5, d6] }
  | _ => none }
def DfaRunsWrongFalsely : Prop := dfaRunsRow.holds Tryd.pinned (OpenSpec.ofChange dfaRunsWrong)

/-- 'milestonelaw7.DfaParts': WHATEVER THE INPUT: true; the input reads as it did. -/
def dfaPartsSpec : ChangeSpec := { name := "dfaParts", fn := fun _ => fun
  | [d1, d2, d3, d4, d5] => { results := [.lit (.bool true)], args := [d1, d2, d3, d4, d5] }
  | _ => none }
def dfaPartsRow : OpenClaim := { program := "ytepgijgmnijdpaadoor", sum := "6acdf23ce6438c767ef768e26f07d2d75dc044b4dc6766df23933df06b56d086", func := "milestone/milestonelaw7.DfaParts", spec := "dfaParts", inPlace := ["slices.overlaps[milestone/dfa.known]"], unfollowed := true, recurses := true, named := ["math/bits.deBruijn64tab"], apart := false, laid := [("math/bits.deBruijn64tab", laid_math_bits_deBruijn64tab)] }
def DfaPartsSaid : Prop := dfaPartsRow.holds Tryd.pinned (OpenSpec.ofChange dfaPartsSpec)

/-- ITS FALSE NEIGHBOUR: 'it returns false'. Refute it at one input. -/
def dfaPartsWrong : ChangeSpec := { name := "dfaParts", fn := fun _ => fun
  | [d1, d2, d3, d4, d5] => { results := [.lit (.bool false)], args := [d1, d2, d3, d4, d5] }
  | _ => none }
def DfaPartsWrongFalsely : Prop := dfaPartsRow.holds Tryd.pinned (OpenSpec.ofChange dfaPartsWrong)

/-- 'milestonelaw7.DfaSubsets': WHATEVER THE INPUT: true; the input reads as it did. -/
def dfaSubsetsSpec : ChangeSpec := { name := "dfaSubsets", fn := fun _ => fun
  | [d1, d2, d3, d4, d5] => { results := [.lit (.bool true)], args := [d1, d2, d3, d4, d5] }
  | _ => none }
def dfaSubsetsRow : OpenClaim := { program := "ytepgijgmnijdpaadoor", sum := "6acdf23ce6438c767ef768e26f07d2d75dc044b4dc6766df23933df06b56d086", func := "milestone/milestonelaw7.DfaSubsets", spec := "dfaSubsets", inPlace := ["slices.overlaps[milestone/dfa.known]"], unfollowed := true, recurses := true, named := ["math/bits.deBruijn64tab"], apart := false, laid := [("math/bits.deBruijn64tab", laid_math_bits_deBruijn64tab)] }
def DfaSubsetsSaid : Prop := dfaSubsetsRow.holds Tryd.pinned (OpenSpec.ofChange dfaSubsetsSpec)

/-- ITS FALSE NEIGHBOUR: 'it returns false'. Refute it at one input. -/
def dfaSubsetsWrong : ChangeSpec := { name := "dfaSubsets", fn := fun _ => fun
  | [d1, d2, d3, d4, d5] => { results := [.lit (.bool false)], args := [d1, d2, d3, d4, d5] }
  | _ => none }
def DfaSubsetsWrongFalsely : Prop := dfaSubsetsRow.holds Tryd.pinned (OpenSpec.ofChange dfaSubsetsWrong)

/-- 'milestonelaw7.DfaTakes': WHATEVER THE INPUT: true; the input reads as it did. -/
def dfaTakesSpec : ChangeSpec := { name := "dfaTakes", fn := fun _ => fun
  | [d1, d2, d3] => { results := [.lit (.bool true)], args := [d1, d2, d3] }
  | _ => none }
def dfaTakesRow : OpenClaim := { program := "ytepgijgmnijdpaadoor", sum := "6acdf23ce6438c767ef768e26f07d2d75dc044b4dc6766df23933df06b56d086", func := "milestone/milestonelaw7.DfaTakes", spec := "dfaTakes", inPlace := ["slices.overlaps[milestone/dfa.known]"], unfollowed := true, recurses := true, named := ["math/bits.deBruijn64tab"], loops := true, apart := false, laid := [("math/bits.deBruijn64tab", laid_math_bits_deBruijn64tab)] }
def DfaTakesSaid : Prop := dfaTakesRow.holds Tryd.pinned (OpenSpec.ofChange dfaTakesSpec)

/-- ITS FALSE NEIGHBOUR: 'it returns false'. Refute it at one input. -/
def dfaTakesWrong : ChangeSpec := { name := "dfaTakes", fn := fun _ => fun
  | [d1, d2, d3] => { results := [.lit (.bool false)], args := [d1, d2, d3] }
  | _ => none }
def DfaTakesWrongFalsely : Prop := dfaTakesRow.holds Tryd.pinned (OpenSpec.ofChange dfaTakesWrong)

/-- 'milestonelaw7.DfaCaps': WHATEVER THE INPUT: true; the input reads as it did. -/
def dfaCapsSpec : ChangeSpec := { name := "dfaCaps", fn := fun _ => fun
  | [d] => { results := [.lit (.bool true)], args := [d] }
  | _ => none }
def dfaCapsRow : OpenClaim := { program := "ytepgijgmnijdpaadoor", sum := "6acdf23ce6438c767ef768e26f07d2d75dc044b4dc6766df23933df06b56d086", func := "milestone/milestonelaw7.DfaCaps", spec := "dfaCaps", inPlace := ["slices.overlaps[milestone/dfa.known]"], unfollowed := true, recurses := true, named := ["math/bits.deBruijn64tab"], loops := true, apart := false, laid := [("math/bits.deBruijn64tab", laid_math_bits_deBruijn64tab)] }
def DfaCapsSaid : Prop := dfaCapsRow.holds Tryd.pinned (OpenSpec.ofChange dfaCapsSpec)

/-- ITS FALSE NEIGHBOUR: 'it returns false'. Refute it at one input. -/
def dfaCapsWrong : ChangeSpec := { name := "dfaCaps", fn := fun _ => fun
  | [d] => { results := [.lit (.bool false)], args := [d] }
  | _ => none }
def DfaCapsWrongFalsely : Prop := dfaCapsRow.holds Tryd.pinned (OpenSpec.ofChange dfaCapsWrong)

/-- 'milestonelaw7.DfaEach': WHATEVER THE INPUT: true; the input reads as it did. -/
def dfaEachSpec : ChangeSpec := { name := "dfaEach", fn := fun _ => fun
  | [d1, d2, d3, d4, d5] => { results := [.lit (.bool true)], args := [d1, d2, d3, d4, d5] }
  | _ => none }
def dfaEachRow : OpenClaim := { program := "ytepgijgmnijdpaadoor", sum := "6acdf23ce6438c767ef768e26f07d2d75dc044b4dc6766df23933df06b56d086", func := "milestone/milestonelaw7.DfaEach", spec := "dfaEach", inPlace := ["slices.overlaps[milestone/dfa.known]"], unfollowed := true, recurses := true, named := ["math/bits.deBruijn64tab"], apart := false, laid := [("math/bits.deBruijn64tab", laid_math_bits_deBruijn64tab)] }
def DfaEachSaid : Prop := dfaEachRow.holds Tryd.pinned (OpenSpec.ofChange dfaEachSpec)

/-- ITS FALSE NEIGHBOUR: 'it returns false'. Refute it at one input. -/
def dfaEachWrong : ChangeSpec := { name := "dfaEach", fn := fun _ => fun
  | [d1, d2, d3, d4, d5] => { results := [.lit (.bool false)], args := [d1, d2, d3, d4, d5] }
  | _ => none }
def DfaEachWrongFalsely : Prop := dfaEachRow.holds Tryd.pinned (OpenSpec.ofChange dfaEachWrong)

/-- 'milestonelaw7.DfaMet': WHATEVER THE INPUT: true; the input reads as it did. -/
def dfaMetSpec : ChangeSpec := { name := "dfaMet", fn := fun _ => fun
  | [d1, d2, d3, d4] => { results := [.lit (.bool true)], args := [d1, d2, d3, d4] }
  | _ => none }
def dfaMetRow : OpenClaim := { program := "ytepgijgmnijdpaadoor", sum := "6acdf23ce6438c767ef768e26f07d2d75dc044b4dc6766df23933df06b56d086", func := "milestone/milestonelaw7.DfaMet", spec := "dfaMet", inPlace := ["slices.overlaps[milestone/dfa.known]"], unfollowed := true, recurses := true, named := ["math/bits.deBruijn64tab"], apart := false, laid := [("math/bits.deBruijn64tab", laid_math_bits_deBruijn64tab)] }
def DfaMetSaid : Prop := dfaMetRow.holds Tryd.pinned (OpenSpec.ofChange dfaMetSpec)

/-- ITS FALSE NEIGHBOUR: 'it returns false'. Refute it at one input. -/
def dfaMetWrong : ChangeSpec := { name := "dfaMet", fn := fun _ => fun
  | [d1, d2, d3, d4] => { results := [.lit (.bool false)], args := [d1, d2, d3, d4] }
  | _ => none }
def DfaMetWrongFalsely : Prop := dfaMetRow.holds Tryd.pinned (OpenSpec.ofChange dfaMetWrong)

/-- 'milestonelaw7.DfaFlat': WHATEVER THE INPUT: true; the input reads as it did. -/
def dfaFlatSpec : ChangeSpec := { name := "dfaFlat", fn := fun _ => fun
  | [d1, d2, d3, d4, d5] => { results := [.lit (.bool true)], args := [d1, d2, d3, d4, d5] }
  | _ => none }
def dfaFlatRow : OpenClaim := { program := "ytepgijgmnijdpaadoor", sum := "6acdf23ce6438c767ef768e26f07d2d75dc044b4dc6766df23933df06b56d086", func := "milestone/milestonelaw7.DfaFlat", spec := "dfaFlat", inPlace := ["slices.overlaps[milestone/dfa.known]"], unfollowed := true, recurses := true, named := ["math/bits.deBruijn64tab"], apart := false, laid := [("math/bits.deBruijn64tab", laid_math_bits_deBruijn64tab)] }
def DfaFlatSaid : Prop := dfaFlatRow.holds Tryd.pinned (OpenSpec.ofChange dfaFlatSpec)

/-- ITS FALSE NEIGHBOUR: 'it returns false'. Refute it at one input. -/
def dfaFlatWrong : ChangeSpec := { name := "dfaFlat", fn := fun _ => fun
  | [d1, d2, d3, d4, d5] => { results := [.lit (.bool false)], args := [d1, d2, d3, d4, d5] }
  | _ => none }
def DfaFlatWrongFalsely : Prop := dfaFlatRow.holds Tryd.pinned (OpenSpec.ofChange dfaFlatWrong)

/- THE SECOND FORM. 'bulk': how many values and letters a reading holds, each counted each time it is reached (what is shared counts as often as it is met; a slice's spare places count too). A statement '..UptoSaid' is the law's where the arguments, and the package variables that the reading takes, are together of bulk at most 1048576: NARROWER than '..Said'. Prove '..Said' where nothing that the law and all that it calls make is longer than what came in: it says more and counts as full. Else prove '..UptoSaid'. A law counts once. -/
mutual
def uptoBulk {H : Type} : DataW H → Nat
  | .lit (.string bytes) => bytes.length + 1
  | .lit _ => 1
  | .nil => 1
  | .ptr d => uptoBulk d + 1
  | .slice elems spare => uptoBulkAll elems + uptoBulkAll spare + 1
  | .agg parts => uptoBulkAll parts + 1
  | .iface _ d => uptoBulk d + 1
  | .map entries => uptoBulkEntries entries + 1
  | .held _ => 1
def uptoBulkAll {H : Type} : List (DataW H) → Nat
  | [] => 0
  | d :: r => uptoBulk d + uptoBulkAll r
def uptoBulkEntries {H : Type} : List (Lit × DataW H) → Nat
  | [] => 0
  | x :: r => uptoBulkEntry x + uptoBulkEntries r
def uptoBulkEntry {H : Type} : Lit × DataW H → Nat
  | (.string bytes, d) => bytes.length + uptoBulk d + 1
  | (_, d) => uptoBulk d + 1
 end
def uptoSmall : (H : Type) → List (DataW H) → Bool := fun _ ds => decide (uptoBulkAll ds ≤ 1048576)
def OpenSpec.upto (s : _root_.Go.ChangeSpec) : _root_.Go.OpenSpec := { _root_.Go.OpenSpec.ofChange s with cond := some uptoSmall }

/-- 'milestonelaw7.DfaChecks', WHERE WHAT IT READS IS OF BULK AT MOST 1048576: true; the input reads as it did. -/
def dfaChecksUptoRow : OpenClaim := { program := "ytepgijgmnijdpaadoor", sum := "6acdf23ce6438c767ef768e26f07d2d75dc044b4dc6766df23933df06b56d086", func := "milestone/milestonelaw7.DfaChecks", spec := "dfaChecks", inPlace := ["slices.overlaps[milestone/dfa.known]"], unfollowed := true, recurses := true, named := ["math/bits.deBruijn64tab"], apart := false, laid := [("math/bits.deBruijn64tab", laid_math_bits_deBruijn64tab)], narrowed := true }
def DfaChecksUptoSaid : Prop := dfaChecksUptoRow.holds Tryd.pinned (OpenSpec.upto dfaChecksSpec)

/-- 'milestonelaw7.DfaRuns', WHERE WHAT IT READS IS OF BULK AT MOST 1048576: true; the input reads as it did. -/
def dfaRunsUptoRow : OpenClaim := { program := "ytepgijgmnijdpaadoor", sum := "6acdf23ce6438c767ef768e26f07d2d75dc044b4dc6766df23933df06b56d086", func := "milestone/milestonelaw7.DfaRuns", spec := "dfaRuns", inPlace := ["slices.overlaps[milestone/dfa.known]"], unfollowed := true, recurses := true, named := ["math/bits.deBruijn64tab"], apart := false, laid := [("math/bits.deBruijn64tab", laid_math_bits_deBruijn64tab)], narrowed := true }
def DfaRunsUptoSaid : Prop := dfaRunsUptoRow.holds Tryd.pinned (OpenSpec.upto dfaRunsSpec)

/-- 'milestonelaw7.DfaParts', WHERE WHAT IT READS IS OF BULK AT MOST 1048576: true; the input reads as it did. -/
def dfaPartsUptoRow : OpenClaim := { program := "ytepgijgmnijdpaadoor", sum := "6acdf23ce6438c767ef768e26f07d2d75dc044b4dc6766df23933df06b56d086", func := "milestone/milestonelaw7.DfaParts", spec := "dfaParts", inPlace := ["slices.overlaps[milestone/dfa.known]"], unfollowed := true, recurses := true, named := ["math/bits.deBruijn64tab"], apart := false, laid := [("math/bits.deBruijn64tab", laid_math_bits_deBruijn64tab)], narrowed := true }
def DfaPartsUptoSaid : Prop := dfaPartsUptoRow.holds Tryd.pinned (OpenSpec.upto dfaPartsSpec)

/-- 'milestonelaw7.DfaSubsets', WHERE WHAT IT READS IS OF BULK AT MOST 1048576: true; the input reads as it did. -/
def dfaSubsetsUptoRow : OpenClaim := { program := "ytepgijgmnijdpaadoor", sum := "6acdf23ce6438c767ef768e26f07d2d75dc044b4dc6766df23933df06b56d086", func := "milestone/milestonelaw7.DfaSubsets", spec := "dfaSubsets", inPlace := ["slices.overlaps[milestone/dfa.known]"], unfollowed := true, recurses := true, named := ["math/bits.deBruijn64tab"], apart := false, laid := [("math/bits.deBruijn64tab", laid_math_bits_deBruijn64tab)], narrowed := true }
def DfaSubsetsUptoSaid : Prop := dfaSubsetsUptoRow.holds Tryd.pinned (OpenSpec.upto dfaSubsetsSpec)

/-- 'milestonelaw7.DfaTakes', WHERE WHAT IT READS IS OF BULK AT MOST 1048576: true; the input reads as it did. -/
def dfaTakesUptoRow : OpenClaim := { program := "ytepgijgmnijdpaadoor", sum := "6acdf23ce6438c767ef768e26f07d2d75dc044b4dc6766df23933df06b56d086", func := "milestone/milestonelaw7.DfaTakes", spec := "dfaTakes", inPlace := ["slices.overlaps[milestone/dfa.known]"], unfollowed := true, recurses := true, named := ["math/bits.deBruijn64tab"], loops := true, apart := false, laid := [("math/bits.deBruijn64tab", laid_math_bits_deBruijn64tab)], narrowed := true }
def DfaTakesUptoSaid : Prop := dfaTakesUptoRow.holds Tryd.pinned (OpenSpec.upto dfaTakesSpec)

/-- 'milestonelaw7.DfaCaps', WHERE WHAT IT READS IS OF BULK AT MOST 1048576: true; the input reads as it did. -/
def dfaCapsUptoRow : OpenClaim := { program := "ytepgijgmnijdpaadoor", sum := "6acdf23ce6438c767ef768e26f07d2d75dc044b4dc6766df23933df06b56d086", func := "milestone/milestonelaw7.DfaCaps", spec := "dfaCaps", inPlace := ["slices.overlaps[milestone/dfa.known]"], unfollowed := true, recurses := true, named := ["math/bits.deBruijn64tab"], loops := true, apart := false, laid := [("math/bits.deBruijn64tab", laid_math_bits_deBruijn64tab)], narrowed := true }
def DfaCapsUptoSaid : Prop := dfaCapsUptoRow.holds Tryd.pinned (OpenSpec.upto dfaCapsSpec)

/-- 'milestonelaw7.DfaEach', WHERE WHAT IT READS IS OF BULK AT MOST 1048576: true; the input reads as it did. -/
def dfaEachUptoRow : OpenClaim := { program := "ytepgijgmnijdpaadoor", sum := "6acdf23ce6438c767ef768e26f07d2d75dc044b4dc6766df23933df06b56d086", func := "milestone/milestonelaw7.DfaEach", spec := "dfaEach", inPlace := ["slices.overlaps[milestone/dfa.known]"], unfollowed := true, recurses := true, named := ["math/bits.deBruijn64tab"], apart := false, laid := [("math/bits.deBruijn64tab", laid_math_bits_deBruijn64tab)], narrowed := true }
def DfaEachUptoSaid : Prop := dfaEachUptoRow.holds Tryd.pinned (OpenSpec.upto dfaEachSpec)

/-- 'milestonelaw7.DfaMet', WHERE WHAT IT READS IS OF BULK AT MOST 1048576: true; the input reads as it did. -/
def dfaMetUptoRow : OpenClaim := { program := "ytepgijgmnijdpaadoor", sum := "6acdf23ce6438c767ef768e26f07d2d75dc044b4dc6766df23933df06b56d086", func := "milestone/milestonelaw7.DfaMet", spec := "dfaMet", inPlace := ["slices.overlaps[milestone/dfa.known]"], unfollowed := true, recurses := true, named := ["math/bits.deBruijn64tab"], apart := false, laid := [("math/bits.deBruijn64tab", laid_math_bits_deBruijn64tab)], narrowed := true }
def DfaMetUptoSaid : Prop := dfaMetUptoRow.holds Tryd.pinned (OpenSpec.upto dfaMetSpec)

/-- 'milestonelaw7.DfaFlat', WHERE WHAT IT READS IS OF BULK AT MOST 1048576: true; the input reads as it did. -/
def dfaFlatUptoRow : OpenClaim := { program := "ytepgijgmnijdpaadoor", sum := "6acdf23ce6438c767ef768e26f07d2d75dc044b4dc6766df23933df06b56d086", func := "milestone/milestonelaw7.DfaFlat", spec := "dfaFlat", inPlace := ["slices.overlaps[milestone/dfa.known]"], unfollowed := true, recurses := true, named := ["math/bits.deBruijn64tab"], apart := false, laid := [("math/bits.deBruijn64tab", laid_math_bits_deBruijn64tab)], narrowed := true }
def DfaFlatUptoSaid : Prop := dfaFlatUptoRow.holds Tryd.pinned (OpenSpec.upto dfaFlatSpec)

end Rows
end Go.Proofs.YtepgijgmnijdpaaDoor
