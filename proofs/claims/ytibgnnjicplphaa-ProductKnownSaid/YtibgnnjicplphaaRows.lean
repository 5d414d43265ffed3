/-
  NARROWER THAN 'FOR EVERY INPUT', by the rows' own cells (each row's printed sentence says how): ProductCosts: loops · ProductWalks: loops · ProductMore: loops · ProductSums: loops.
  DERIVED. THE GIVEN ROWS OF THIS SEAT. 9 by the template 'for every input the law returns true; each argument reads behind the call as it read before'; 0 by the template 'total and deterministic' (their statements: YtibgnnjicplphaaTotals.lean).
  GIVEN WITH THE SEED: the statements are not yours to turn. If you find one false, say at which input.
  Laid BY PROGRAM, IN A SANDBOX (cutbox-rows.mjs): the forced cells as the released guide's own fill.sh prints them over the translation b7ad01f0e7d1b0ad… (all of the seat's roots in one cut). By AI agents, Wed Nov 11 2026. No macro, syntax, notation, axiom, sorry.
-/
import Derived.Test.YtibgnnjicplphaaChecked
import GoSem.Claim
import GoSem.ClaimJoined
import GoSem.ClaimMapViews
import Derived.JoinedTies
import Derived.KernelRfl
namespace Go.Proofs.Ytibgnnjicplphaa
/- THE CELL 'sum', in the pinned program and in every row, IS THE sha256 OF THE DUMP (.gsa) THAT YtibgnnjicplphaaProg.lean LOADS. Nothing in Lean hashes anything: it is a label: what it is worth is what the hold of that sum in a sandbox is worth. -/
noncomputable def Try.pinned : Pinned := { name := "ytibgnnjicplphaa", sum := "b7ad01f0e7d1b0ad2d61d29775874dd1a23022c800bb8628d04f334b7c73d32b", checked := Try.checked }
namespace Rows
def none {H : Type} : Left H := { results := [], args := [] }

/-- 'milestonelaw9.ProductCosts': WHATEVER THE INPUT: true; the input reads as it did. -/
def productCostsSpec : ChangeSpec := { name := "productCosts", fn := fun _ => fun
  | [d1, d2, d3, d4, d5] => { results := [.lit (.bool true)], args := [d1, d2, d3, d4, d5] }
  | _ => none }
def productCostsRow : OpenClaim := { program := "ytibgnnjicplphaa", sum := "b7ad01f0e7d1b0ad2d61d29775874dd1a23022c800bb8628d04f334b7c73d32b", func := "milestone/milestonelaw9.ProductCosts", spec := "productCosts", unfollowed := true, recurses := true, loops := true, apart := false }
def ProductCostsSaid : Prop := productCostsRow.holds Try.pinned (OpenSpec.ofChange productCostsSpec)

/-- ITS FALSE NEIGHBOUR: 'it returns false'. Refute it at one input. -/
def productCostsWrong : ChangeSpec := { name := "productCosts", fn := fun _ => fun
  | [d1, d2, d3, d4, d5] => { results := [.lit (.bool false)], args := [d1, d2, d3, d4, d5] }
  | _ => none }
def ProductCostsWrongFalsely : Prop := productCostsRow.holds Try.pinned (OpenSpec.ofChange productCostsWrong)

/-- 'milestonelaw9.ProductAny': WHATEVER THE INPUT: true; the input reads as it did. -/
def productAnySpec : ChangeSpec := { name := "productAny", fn := fun _ => fun
  | [d1, d2, d3, d4, d5, d6, d7, d8] => { results := [.lit (.bool true)], args := [d1, d2, d3, d4, d5, d6, d7, d8] }
  | _ => none }
def productAnyRow : OpenClaim := { program := "ytibgnnjicplphaa", sum := "b7ad01f0e7d1b0ad2d61d29775874dd1a23022c800bb8628d04f334b7c73d32b", func := "milestone/milestonelaw9.ProductAny", spec := "productAny", unfollowed := true, recurses := true, apart := false }
def ProductAnySaid : Prop := productAnyRow.holds Try.pinned (OpenSpec.ofChange productAnySpec)

/-- ITS FALSE NEIGHBOUR: 'it returns false'. Refute it at one input. -/
def productAnyWrong : ChangeSpec := { name := "productAny", fn := fun _ => fun
  | [d1, d2, d3, d4, d5, d6, d7, d8] => { results := [.lit (.bool false)], args := [d1, d2, d3, d4, d5, d6, d7, d8] }
  | _ => none }
def ProductAnyWrongFalsely : Prop := productAnyRow.holds Try.pinned (OpenSpec.ofChange productAnyWrong)

/-- 'milestonelaw9.ProductWalks': WHATEVER THE INPUT: true; the input reads as it did. -/
def productWalksSpec : ChangeSpec := { name := "productWalks", fn := fun _ => fun
  | [d1, d2, d3, d4, d5, d6] => { results := [.lit (.bool true)], args := [d1, d2, d3, d4, d5, d6] }
  | _ => none }
def productWalksRow : OpenClaim := { program := "ytibgnnjicplphaa", sum := "b7ad01f0e7d1b0ad2d61d29775874dd1a23022c800bb8628d04f334b7c73d32b", func := "milestone/milestonelaw9.ProductWalks", spec := "productWalks", unfollowed := true, recurses := true, loops := true, apart := false }
def ProductWalksSaid : Prop := productWalksRow.holds Try.pinned (OpenSpec.ofChange productWalksSpec)

/-- ITS FALSE NEIGHBOUR: 'it returns false'. Refute it at one input. -/
def productWalksWrong : ChangeSpec := { name := "productWalks", fn := fun _ => fun
  | [d1, d2, d3, d4, d5, d6] => { results := [.lit (.bool false)], args := [d1, d2, d3, d4, d5, d6] }
  | _ => none }
def ProductWalksWrongFalsely : Prop := productWalksRow.holds Try.pinned (OpenSpec.ofChange productWalksWrong)

/-- 'milestonelaw9.ProductMore': WHATEVER THE INPUT: true; the input reads as it did. -/
def productMoreSpec : ChangeSpec := { name := "productMore", fn := fun _ => fun
  | [d1, d2, d3, d4, d5, d6, d7] => { results := [.lit (.bool true)], args := [d1, d2, d3, d4, d5, d6, d7] }
  | _ => none }
def productMoreRow : OpenClaim := { program := "ytibgnnjicplphaa", sum := "b7ad01f0e7d1b0ad2d61d29775874dd1a23022c800bb8628d04f334b7c73d32b", func := "milestone/milestonelaw9.ProductMore", spec := "productMore", unfollowed := true, recurses := true, loops := true, apart := false }
def ProductMoreSaid : Prop := productMoreRow.holds Try.pinned (OpenSpec.ofChange productMoreSpec)

/-- ITS FALSE NEIGHBOUR: 'it returns false'. Refute it at one input. -/
def productMoreWrong : ChangeSpec := { name := "productMore", fn := fun _ => fun
  | [d1, d2, d3, d4, d5, d6, d7] => { results := [.lit (.bool false)], args := [d1, d2, d3, d4, d5, d6, d7] }
  | _ => none }
def ProductMoreWrongFalsely : Prop := productMoreRow.holds Try.pinned (OpenSpec.ofChange productMoreWrong)

/-- 'milestonelaw9.ProductGreat': WHATEVER THE INPUT: true; the input reads as it did. -/
def productGreatSpec : ChangeSpec := { name := "productGreat", fn := fun _ => fun
  | [d1, d2, d3] => { results := [.lit (.bool true)], args := [d1, d2, d3] }
  | _ => none }
def productGreatRow : OpenClaim := { program := "ytibgnnjicplphaa", sum := "b7ad01f0e7d1b0ad2d61d29775874dd1a23022c800bb8628d04f334b7c73d32b", func := "milestone/milestonelaw9.ProductGreat", spec := "productGreat", unfollowed := true, recurses := true, apart := false }
def ProductGreatSaid : Prop := productGreatRow.holds Try.pinned (OpenSpec.ofChange productGreatSpec)

/-- ITS FALSE NEIGHBOUR: 'it returns false'. Refute it at one input. -/
def productGreatWrong : ChangeSpec := { name := "productGreat", fn := fun _ => fun
  | [d1, d2, d3] => { results := [.lit (.bool false)], args := [d1, d2, d3] }
  | _ => none }
def ProductGreatWrongFalsely : Prop := productGreatRow.holds Try.pinned (OpenSpec.ofChange productGreatWrong)

/-- 'milestonelaw9.ProductKnown': WHATEVER THE INPUT: true; the input reads as it did. -/
def productKnownSpec : ChangeSpec := { name := "productKnown", fn := fun _ => fun
  | [d] => { results := [.lit (.bool true)], args := [d] }
  | _ => none }
def productKnownRow : OpenClaim := { program := "ytibgnnjicplphaa", sum := "b7ad01f0e7d1b0ad2d61d29775874dd1a23022c800bb8628d04f334b7c73d32b", func := "milestone/milestonelaw9.ProductKnown", spec := "productKnown", unfollowed := true, recurses := true, apart := false }
def ProductKnownSaid : Prop := productKnownRow.holds Try.pinned (OpenSpec.ofChange productKnownSpec)

/-- ITS FALSE NEIGHBOUR: 'it returns false'. Refute it at one input. -/
def productKnownWrong : ChangeSpec := { name := "productKnown", fn := fun _ => fun
  | [d] => { results := [.lit (.bool false)], args := [d] }
  | _ => none }
def ProductKnownWrongFalsely : Prop := productKnownRow.holds Try.pinned (OpenSpec.ofChange productKnownWrong)

/-- 'milestonelaw9.ProductTriangle': WHATEVER THE INPUT: true; the input reads as it did. -/
def productTriangleSpec : ChangeSpec := { name := "productTriangle", fn := fun _ => fun
  | [d1, d2, d3, d4, d5, d6, d7] => { results := [.lit (.bool true)], args := [d1, d2, d3, d4, d5, d6, d7] }
  | _ => none }
def productTriangleRow : OpenClaim := { program := "ytibgnnjicplphaa", sum := "b7ad01f0e7d1b0ad2d61d29775874dd1a23022c800bb8628d04f334b7c73d32b", func := "milestone/milestonelaw9.ProductTriangle", spec := "productTriangle", unfollowed := true, recurses := true, apart := false }
def ProductTriangleSaid : Prop := productTriangleRow.holds Try.pinned (OpenSpec.ofChange productTriangleSpec)

/-- ITS FALSE NEIGHBOUR: 'it returns false'. Refute it at one input. -/
def productTriangleWrong : ChangeSpec := { name := "productTriangle", fn := fun _ => fun
  | [d1, d2, d3, d4, d5, d6, d7] => { results := [.lit (.bool false)], args := [d1, d2, d3, d4, d5, d6, d7] }
  | _ => none }
def ProductTriangleWrongFalsely : Prop := productTriangleRow.holds Try.pinned (OpenSpec.ofChange productTriangleWrong)

/-- 'milestonelaw9.ProductSums': WHATEVER THE INPUT: true; the input reads as it did. -/
def productSumsSpec : ChangeSpec := { name := "productSums", fn := fun _ => fun
  | [d1, d2, d3, d4, d5] => { results := [.lit (.bool true)], args := [d1, d2, d3, d4, d5] }
  | _ => none }
def productSumsRow : OpenClaim := { program := "ytibgnnjicplphaa", sum := "b7ad01f0e7d1b0ad2d61d29775874dd1a23022c800bb8628d04f334b7c73d32b", func := "milestone/milestonelaw9.ProductSums", spec := "productSums", unfollowed := true, recurses := true, loops := true, apart := false }
def ProductSumsSaid : Prop := productSumsRow.holds Try.pinned (OpenSpec.ofChange productSumsSpec)

/-- ITS FALSE NEIGHBOUR: 'it returns false'. Refute it at one input. -/
def productSumsWrong : ChangeSpec := { name := "productSums", fn := fun _ => fun
  | [d1, d2, d3, d4, d5] => { results := [.lit (.bool false)], args := [d1, d2, d3, d4, d5] }
  | _ => none }
def ProductSumsWrongFalsely : Prop := productSumsRow.holds Try.pinned (OpenSpec.ofChange productSumsWrong)

/-- 'milestonelaw9.ProductLess': WHATEVER THE INPUT: true; the input reads as it did. -/
def productLessSpec : ChangeSpec := { name := "productLess", fn := fun _ => fun
  | [d1, d2, d3, d4, d5, d6, d7, d8, d9] => { results := [.lit (.bool true)], args := [d1, d2, d3, d4, d5, d6, d7, d8, d9] }
  | _ => none }
def productLessRow : OpenClaim := { program := "ytibgnnjicplphaa", sum := "b7ad01f0e7d1b0ad2d61d29775874dd1a23022c800bb8628d04f334b7c73d32b", func := "milestone/milestonelaw9.ProductLess", spec := "productLess", unfollowed := true, recurses := true, apart := false }
def ProductLessSaid : Prop := productLessRow.holds Try.pinned (OpenSpec.ofChange productLessSpec)

/-- ITS FALSE NEIGHBOUR: 'it returns false'. Refute it at one input. -/
def productLessWrong : ChangeSpec := { name := "productLess", fn := fun _ => fun
  | [d1, d2, d3, d4, d5, d6, d7, d8, d9] => { results := [.lit (.bool false)], args := [d1, d2, d3, d4, d5, d6, d7, d8, d9] }
  | _ => none }
def ProductLessWrongFalsely : Prop := productLessRow.holds Try.pinned (OpenSpec.ofChange productLessWrong)

/- THE SECOND FORM. 'bulk': how many values and letters a reading holds, each counted each time it is reached (what is shared counts as often as it is met; a slice's spare places count too). A statement '..UptoSaid' is the law's where the arguments, and the package variables that the reading takes, are together of bulk at most 1048576: NARROWER than '..Said'. Prove '..Said' where nothing that the law and all that it calls make is longer than what came in: it says more and counts as full. Else prove '..UptoSaid'. A law counts once. -/
mutual
def uptoBulk {H : Type} : DataW H → Nat
  | .lit (.string bytes) => bytes.length + 1
  | .lit _ => 1
  | .nil => 1
  | .ptr d => uptoBulk d + 1
  | .slice elems spare => uptoBulkAll elems + uptoBulkAll spare + 1
  | .agg parts => uptoBulkAll parts + 1
  | .iface _ d => uptoBulk d + 1
  | .map entries => uptoBulkEntries entries + 1
  | .held _ => 1
def uptoBulkAll {H : Type} : List (DataW H) → Nat
  | [] => 0
  | d :: r => uptoBulk d + uptoBulkAll r
def uptoBulkEntries {H : Type} : List (Lit × DataW H) → Nat
  | [] => 0
  | x :: r => uptoBulkEntry x + uptoBulkEntries r
def uptoBulkEntry {H : Type} : Lit × DataW H → Nat
  | (.string bytes, d) => bytes.length + uptoBulk d + 1
  | (_, d) => uptoBulk d + 1
 end
def uptoSmall : (H : Type) → List (DataW H) → Bool := fun _ ds => decide (uptoBulkAll ds ≤ 1048576)
def OpenSpec.upto (s : _root_.Go.ChangeSpec) : _root_.Go.OpenSpec := { _root_.Go.OpenSpec.ofChange s with cond := some uptoSmall }

/-- 'milestonelaw9.ProductCosts', WHERE WHAT IT READS IS OF BULK AT MOST 1048576: true; the input reads as it did. -/
def productCostsUptoRow : OpenClaim := { program := "ytibgnnjicplphaa", sum := "b7ad01f0e7d1b0ad2d61d29775874dd1a23022c800bb8628d04f334b7c73d32b", func := "milestone/milestonelaw9.ProductCosts", spec := "productCosts", unfollowed := true, recurses := true, loops := true, apart := false, narrowed := true }
def ProductCostsUptoSaid : Prop := productCostsUptoRow.holds Try.pinned (OpenSpec.upto productCostsSpec)

/-- 'milestonelaw9.ProductAny', WHERE WHAT IT READS IS OF BULK AT MOST 1048576: true; the input reads as it did. -/
def productAnyUptoRow : OpenClaim := { program := "ytibgnnjicplphaa", sum := "b7ad01f0e7d1b0ad2d61d29775874dd1a23022c800bb8628d04f334b7c73d32b", func := "milestone/milestonelaw9.ProductAny", spec := "productAny", unfollowed := true, recurses := true, apart := false, narrowed := true }
def ProductAnyUptoSaid : Prop := productAnyUptoRow.holds Try.pinned (OpenSpec.upto productAnySpec)

/-- 'milestonelaw9.ProductWalks', WHERE WHAT IT READS IS OF BULK AT MOST 1048576: true; the input reads as it did. -/
def productWalksUptoRow : OpenClaim := { program := "ytibgnnjicplphaa", sum := "b7ad01f0e7d1b0ad2d61d29775874dd1a23022c800bb8628d04f334b7c73d32b", func := "milestone/milestonelaw9.ProductWalks", spec := "productWalks", unfollowed := true, recurses := true, loops := true, apart := false, narrowed := true }
def ProductWalksUptoSaid : Prop := productWalksUptoRow.holds Try.pinned (OpenSpec.upto productWalksSpec)

/-- 'milestonelaw9.ProductMore', WHERE WHAT IT READS IS OF BULK AT MOST 1048576: true; the input reads as it did. -/
def productMoreUptoRow : OpenClaim := { program := "ytibgnnjicplphaa", sum := "b7ad01f0e7d1b0ad2d61d29775874dd1a23022c800bb8628d04f334b7c73d32b", func := "milestone/milestonelaw9.ProductMore", spec := "productMore", unfollowed := true, recurses := true, loops := true, apart := false, narrowed := true }
def ProductMoreUptoSaid : Prop := productMoreUptoRow.holds Try.pinned (OpenSpec.upto productMoreSpec)

/-- 'milestonelaw9.ProductGreat', WHERE WHAT IT READS IS OF BULK AT MOST 1048576: true; the input reads as it did. -/
def productGreatUptoRow : OpenClaim := { program := "ytibgnnjicplphaa", sum := "b7ad01f0e7d1b0ad2d61d29775874dd1a23022c800bb8628d04f334b7c73d32b", func := "milestone/milestonelaw9.ProductGreat", spec := "productGreat", unfollowed := true, recurses := true, apart := false, narrowed := true }
def ProductGreatUptoSaid : Prop := productGreatUptoRow.holds Try.pinned (OpenSpec.upto productGreatSpec)

/-- 'milestonelaw9.ProductKnown', WHERE WHAT IT READS IS OF BULK AT MOST 1048576: true; the input reads as it did. -/
def productKnownUptoRow : OpenClaim := { program := "ytibgnnjicplphaa", sum := "b7ad01f0e7d1b0ad2d61d29775874dd1a23022c800bb8628d04f334b7c73d32b", func := "milestone/milestonelaw9.ProductKnown", spec := "productKnown", unfollowed := true, recurses := true, apart := false, narrowed := true }
def ProductKnownUptoSaid : Prop := productKnownUptoRow.holds Try.pinned (OpenSpec.upto productKnownSpec)

/-- 'milestonelaw9.ProductTriangle', WHERE WHAT IT READS IS OF BULK AT MOST 1048576: true; the input reads as it did. -/
def productTriangleUptoRow : OpenClaim := { program := "ytibgnnjicplphaa", sum := "b7ad01f0e7d1b0ad2d61d29775874dd1a23022c800bb8628d04f334b7c73d32b", func := "milestone/milestonelaw9.ProductTriangle", spec := "productTriangle", unfollowed := true, recurses := true, apart := false, narrowed := true }
def ProductTriangleUptoSaid : Prop := productTriangleUptoRow.holds Try.pinned (OpenSpec.upto productTriangleSpec)

/-- 'milestonelaw9.ProductSums', WHERE WHAT IT READS IS OF BULK AT MOST 1048576: true; the input reads as it did. -/
def productSumsUptoRow : OpenClaim := { program := "ytibgnnjicplphaa", sum := "b7ad01f0e7d1b0ad2d61d29775874dd1a23022c800bb8628d04f334b7c73d32b", func := "milestone/milestonelaw9.ProductSums", spec := "productSums", unfollowed := true, recurses := true, loops := true, apart := false, narrowed := true }
def ProductSumsUptoSaid : Prop := productSumsUptoRow.holds Try.pinned (OpenSpec.upto productSumsSpec)

/-- 'milestonelaw9.ProductLess', WHERE WHAT IT READS IS OF BULK AT MOST 1048576: true; the input reads as it did. -/
def productLessUptoRow : OpenClaim := { program := "ytibgnnjicplphaa", sum := "b7ad01f0e7d1b0ad2d61d29775874dd1a23022c800bb8628d04f334b7c73d32b", func := "milestone/milestonelaw9.ProductLess", spec := "productLess", unfollowed := true, recurses := true, apart := false, narrowed := true }
def ProductLessUptoSaid : Prop := productLessUptoRow.holds Try.pinned (OpenSpec.upto productLessSpec)

end Rows
end Go.Proofs.Ytibgnnjicplphaa
