/-
  What is proved: ProductKnown: in this network, by these fourteen expressions, it costs just so. For every argument.
-/
import Derived.Test.YtibgnnjicplphaaAmMemoQ
import Derived.Test.YtibgnnjicplphaaPB
import Derived.Test.YtibgnnjicplphaaPQ
open Go Go.Am Go.Proofs
namespace Go.Proofs.Ytibgnnjicplphaa
set_option maxRecDepth 100000
noncomputable def D47_a : List Value × List ABlk × Value × List Nat × List ABlk := ([.agg ⟨[.int .i64 12, .int .i64 0, .int .i64 11, .slice (some ⟨0, 0, none⟩) 6 6, .slice (some ⟨1, 0, none⟩) 5 5]⟩, .int .i64 200], [⟨[.int .i64 0, .int .i64 1, .int .i64 1, .int .i64 2, .int .i64 3, .int .i64 1, .int .i64 4, .int .i64 5, .int .i64 2, .int .i64 6, .int .i64 7, .int .i64 1, .int .i64 8, .int .i64 9, .int .i64 1, .int .i64 10, .int .i64 11, .int .i64 16], 169, 3, 15, true⟩, ⟨[.int .i64 1, .int .i64 2, .int .i64 3, .int .i64 4, .int .i64 5, .int .i64 6, .int .i64 7, .int .i64 8, .int .i64 9, .int .i64 10], 186, 2, 8, true⟩], .tuple ⟨[.agg ⟨[.slice (some ⟨1182, 0, none⟩) 8 8, .slice (some ⟨1184, 0, none⟩) 8 8]⟩, .int .i64 0]⟩, [1182, 1184], [⟨[.int .i64 1, .int .i64 2, .int .i64 2, .int .i64 2, .int .i64 2, .int .i64 3, .int .i64 2, .int .i64 2, .int .i64 2, .int .i64 2, .int .i64 2, .int .i64 2, .int .i64 2, .int .i64 2, .int .i64 2, .int .i64 2, .int .i64 4, .int .i64 2, .int .i64 2, .int .i64 2, .int .i64 5, .int .i64 2, .int .i64 2, .int .i64 2, .int .i64 2, .int .i64 6, .int .i64 2, .int .i64 2, .int .i64 2, .int .i64 2, .int .i64 2, .int .i64 2, .int .i64 2, .int .i64 2, .int .i64 7, .int .i64 2, .int .i64 2, .int .i64 2, .int .i64 2, .int .i64 2], 61, 5, 0, true⟩, ⟨[.bool false, .bool false, .bool false, .bool false, .bool false, .bool false, .bool false, .bool true], 4, 1, 0, true⟩])
noncomputable def K47_a : Memo := ⟨D47_a.1, D47_a.2.1, D47_a.2.2.1, D47_a.2.2.2.1, D47_a.2.2.2.2⟩
theorem st47_a : memoSt K47_a = true := by kernel_rfl
theorem run47_a : memoRunQ Try.prog noSpecs qts 100000 47 K47_a = some (K47_a.v0, K47_a.news.map some, true) := by kernel_rfl
theorem ok47_a (B : Bd) : SpecOk Try.prog [] B 47 (gMemo K47_a) := SpecOk.memoQ noNumP mixedP K47_a qokS (fun _ => rfl) (fun _ => SpecsOk.none) st47_a run47_a
end Go.Proofs.Ytibgnnjicplphaa
