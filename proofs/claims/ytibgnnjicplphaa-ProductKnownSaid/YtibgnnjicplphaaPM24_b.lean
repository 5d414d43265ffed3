/-
  What is proved: ProductKnown: in this network, by these fourteen expressions, it costs just so. For every argument.
-/
import Derived.Test.YtibgnnjicplphaaAmMemoQ
import Derived.Test.YtibgnnjicplphaaPB
import Derived.Test.YtibgnnjicplphaaPQ
open Go Go.Am Go.Proofs
namespace Go.Proofs.Ytibgnnjicplphaa
set_option maxRecDepth 100000
noncomputable def D24_b : List Value × List ABlk × Value × List Nat × List ABlk := ([.agg ⟨[.slice (some ⟨0, 0, none⟩) 9 9, .slice (some ⟨1, 0, none⟩) 9 9]⟩], [⟨[.int .i64 1, .int .i64 1, .int .i64 1, .int .i64 1, .int .i64 1, .int .i64 2, .int .i64 2, .int .i64 2, .int .i64 2, .int .i64 2, .int .i64 3, .int .i64 3, .int .i64 3, .int .i64 3, .int .i64 3, .int .i64 4, .int .i64 4, .int .i64 4, .int .i64 4, .int .i64 4, .int .i64 5, .int .i64 5, .int .i64 5, .int .i64 5, .int .i64 5, .int .i64 6, .int .i64 6, .int .i64 6, .int .i64 6, .int .i64 6, .int .i64 7, .int .i64 7, .int .i64 7, .int .i64 7, .int .i64 8, .int .i64 7, .int .i64 7, .int .i64 7, .int .i64 7, .int .i64 7, .int .i64 7, .int .i64 7, .int .i64 7, .int .i64 7, .int .i64 8], 61, 5, 0, true⟩, ⟨[.bool false, .bool false, .bool false, .bool false, .bool false, .bool false, .bool true, .bool false, .bool true], 4, 1, 0, true⟩], .agg ⟨[.slice (some ⟨321, 0, none⟩) 8 8, .slice (some ⟨323, 0, none⟩) 8 8]⟩, [321, 323], [⟨[.int .i64 1, .int .i64 1, .int .i64 1, .int .i64 1, .int .i64 1, .int .i64 2, .int .i64 2, .int .i64 2, .int .i64 2, .int .i64 2, .int .i64 3, .int .i64 3, .int .i64 3, .int .i64 3, .int .i64 3, .int .i64 4, .int .i64 4, .int .i64 4, .int .i64 4, .int .i64 4, .int .i64 5, .int .i64 5, .int .i64 5, .int .i64 5, .int .i64 5, .int .i64 6, .int .i64 6, .int .i64 6, .int .i64 6, .int .i64 6, .int .i64 7, .int .i64 7, .int .i64 7, .int .i64 7, .int .i64 6, .int .i64 7, .int .i64 7, .int .i64 7, .int .i64 7, .int .i64 7], 61, 5, 0, true⟩, ⟨[.bool false, .bool false, .bool false, .bool false, .bool false, .bool false, .bool true, .bool false], 4, 1, 0, true⟩])
noncomputable def K24_b : Memo := ⟨D24_b.1, D24_b.2.1, D24_b.2.2.1, D24_b.2.2.2.1, D24_b.2.2.2.2⟩
theorem st24_b : memoSt K24_b = true := by kernel_rfl
theorem run24_b : memoRunQ Try.prog noSpecs qts 100000 24 K24_b = some (K24_b.v0, K24_b.news.map some, true) := by kernel_rfl
theorem ok24_b (B : Bd) : SpecOk Try.prog [] B 24 (gMemo K24_b) := SpecOk.memoQ noNumP mixedP K24_b qokS (fun _ => rfl) (fun _ => SpecsOk.none) st24_b run24_b
end Go.Proofs.Ytibgnnjicplphaa
