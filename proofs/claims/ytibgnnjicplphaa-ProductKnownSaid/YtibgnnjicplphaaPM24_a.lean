/-
  What is proved: ProductKnown: in this network, by these fourteen expressions, it costs just so. For every argument.
-/
import Derived.Test.YtibgnnjicplphaaAmMemoQ
import Derived.Test.YtibgnnjicplphaaPB
import Derived.Test.YtibgnnjicplphaaPQ
open Go Go.Am Go.Proofs
namespace Go.Proofs.Ytibgnnjicplphaa
set_option maxRecDepth 100000
noncomputable def D24_a : List Value × List ABlk × Value × List Nat × List ABlk := ([.agg ⟨[.slice (some ⟨0, 0, none⟩) 8 8, .slice (some ⟨1, 0, none⟩) 8 8]⟩], [⟨[.int .i64 1, .int .i64 2, .int .i64 2, .int .i64 2, .int .i64 2, .int .i64 3, .int .i64 2, .int .i64 2, .int .i64 2, .int .i64 2, .int .i64 2, .int .i64 2, .int .i64 2, .int .i64 2, .int .i64 2, .int .i64 2, .int .i64 4, .int .i64 2, .int .i64 2, .int .i64 2, .int .i64 5, .int .i64 2, .int .i64 2, .int .i64 2, .int .i64 2, .int .i64 6, .int .i64 2, .int .i64 2, .int .i64 2, .int .i64 2, .int .i64 2, .int .i64 2, .int .i64 2, .int .i64 2, .int .i64 7, .int .i64 2, .int .i64 2, .int .i64 2, .int .i64 2, .int .i64 2], 61, 5, 0, true⟩, ⟨[.bool false, .bool false, .bool false, .bool false, .bool false, .bool false, .bool false, .bool true], 4, 1, 0, true⟩], .agg ⟨[.slice (some ⟨282, 0, none⟩) 8 8, .slice (some ⟨284, 0, none⟩) 8 8]⟩, [282, 284], [⟨[.int .i64 1, .int .i64 2, .int .i64 2, .int .i64 2, .int .i64 2, .int .i64 3, .int .i64 2, .int .i64 2, .int .i64 2, .int .i64 2, .int .i64 2, .int .i64 2, .int .i64 2, .int .i64 2, .int .i64 2, .int .i64 2, .int .i64 4, .int .i64 2, .int .i64 2, .int .i64 2, .int .i64 5, .int .i64 2, .int .i64 2, .int .i64 2, .int .i64 2, .int .i64 6, .int .i64 2, .int .i64 2, .int .i64 2, .int .i64 2, .int .i64 2, .int .i64 2, .int .i64 2, .int .i64 2, .int .i64 7, .int .i64 2, .int .i64 2, .int .i64 2, .int .i64 2, .int .i64 2], 61, 5, 0, true⟩, ⟨[.bool false, .bool false, .bool false, .bool false, .bool false, .bool false, .bool false, .bool true], 4, 1, 0, true⟩])
noncomputable def K24_a : Memo := ⟨D24_a.1, D24_a.2.1, D24_a.2.2.1, D24_a.2.2.2.1, D24_a.2.2.2.2⟩
theorem st24_a : memoSt K24_a = true := by kernel_rfl
theorem run24_a : memoRunQ Try.prog noSpecs qts 100000 24 K24_a = some (K24_a.v0, K24_a.news.map some, true) := by kernel_rfl
theorem ok24_a (B : Bd) : SpecOk Try.prog [] B 24 (gMemo K24_a) := SpecOk.memoQ noNumP mixedP K24_a qokS (fun _ => rfl) (fun _ => SpecsOk.none) st24_a run24_a
end Go.Proofs.Ytibgnnjicplphaa
